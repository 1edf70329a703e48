/- Joined: SvX, SvY, Lvm, SvJ. -/
import Derived.Test.YtcpbijlcflaomaaGreatDoorSh
import Derived.Test.YtcpbijlcflaomaaGreatDoorSk
import Derived.Test.YtcpbijlcflaomaaGreatDoorLc
import Derived.Test.YtcpbijlcflaomaaGreatDoorFg
import Derived.Deep.QuietTactic
import Derived.BigQuiet


/- SureMore: plain. -/
set_option linter.unusedSimpArgs false
set_option linter.unusedVariables false
namespace Go.Proofs.YtcpbijlcflaomaaGreatDoor
open Go.RowKit Go.Sort Go.Maps

/-- Blocks that go on alike. -/
def Like (A B : BlkM) : Prop := A.lab = B.lab ∧ A.e = B.e ∧ A.y = B.y ∧ A.n = B.n ∧ A.a = B.a
/-- The same program, but that one block has an instruction more ahead. -/
structure More (bs bt : List BlkM) (k : Nat) (x : InsM) : Prop where
  n : bt.length = bs.length
  l : ∀ i : Nat, i < bs.length → ∃ A B, bs[i]? = some A ∧ bt[i]? = some B ∧ Like A B ∧ B.ins = if i = k then x :: A.ins else A.ins
section
variable {bs bt : List BlkM} {k : Nat} {x : InsM}
theorem More.labs (h : More bs bt k x) : labsOf bt = labsOf bs := by
  apply List.ext_getElem?
  intro i
  unfold labsOf
  rw [List.getElem?_map, List.getElem?_map]
  by_cases hi : i < bs.length
  · obtain ⟨A, B, h1, h2, h3, _⟩ := h.l i hi
    rw [h1, h2]; simp [h3.1]
  · have hn := h.n
    rw [List.getElem?_eq_none (by omega), List.getElem?_eq_none (by omega)]
theorem More.gofK (h : More bs bt k x) (P : Int → Option Int) : ∀ j, Go.Proofs.YtcpbijlcflaomaaGreatDoor.gofK P bt j = Go.Proofs.YtcpbijlcflaomaaGreatDoor.gofK P bs j
  | 0 => rfl
  | j + 1 => by
    rw [Go.Proofs.YtcpbijlcflaomaaGreatDoor.gofK, Go.Proofs.YtcpbijlcflaomaaGreatDoor.gofK, h.gofK P j]
    by_cases hi : j < bs.length
    · obtain ⟨A, B, h1, h2, h3, _⟩ := h.l j hi
      rw [h1, h2]
      show joL P j _ (llabs B.e B.y B.n) = joL P j _ (llabs A.e A.y A.n)
      rw [h3.2.1, h3.2.2.1, h3.2.2.2.1]
    · have hn := h.n
      rw [List.getElem?_eq_none (by omega), List.getElem?_eq_none (by omega)]
theorem More.gof (h : More bs bt k x) : Go.Proofs.YtcpbijlcflaomaaGreatDoor.gof bt = Go.Proofs.YtcpbijlcflaomaaGreatDoor.gof bs := by
  unfold Go.Proofs.YtcpbijlcflaomaaGreatDoor.gof
  rw [h.labs, h.n, h.gofK]
theorem More.sall (h : More bs bt k x) (i y : Int) (hy : y ∈ Sall bs i) : y ∈ Sall bt i := by
  unfold Sall insB at *
  by_cases hi : i.toNat < bs.length
  · obtain ⟨A, B, h1, h2, h3, h4⟩ := h.l i.toNat hi
    rw [h1] at hy
    rw [h2]
    simp only at hy ⊢
    rw [h4]
    split
    · rw [setL_cons]; exact List.mem_append_right _ hy
    · exact hy
  · rw [List.getElem?_eq_none (by omega)] at hy
    simp [setL] at hy
/-- Nothing is less sure. -/
theorem More.sure (h : More bs bt k x) (hn : 0 < bs.length) {Q R : Int → List Int} {r : Int}
    (hQ : ∀ i : Nat, i < bs.length → (r ∈ Q i ↔ (i : Int) ∈ (dfs (Go.Proofs.YtcpbijlcflaomaaGreatDoor.gof bs) bs.length).met ∧ ¬ Wth (Go.Proofs.YtcpbijlcflaomaaGreatDoor.gof bs) (Sall bs) r i))
    (hR : ∀ i : Nat, i < bt.length → (r ∈ R i ↔ (i : Int) ∈ (dfs (Go.Proofs.YtcpbijlcflaomaaGreatDoor.gof bt) bt.length).met ∧ ¬ Wth (Go.Proofs.YtcpbijlcflaomaaGreatDoor.gof bt) (Sall bt) r i)) (i : Nat) (hi : i < bs.length) (hr : r ∈ Q i) : r ∈ R i := by
  have h1 := (hQ i hi).1 hr
  rw [hR i (by rw [h.n]; exact hi), h.gof, h.n]
  exact ⟨h1.1, fun hw => h1.2 (wth_mono (fun j => h.sall j r) hw)⟩
theorem More.check (h : More bs bt k x) (hx : rds x.k x.a x.b = []) (hn : 0 < bs.length) {Q R : Int → List Int} {G : Int → Prop}
    (hG : ∀ B ∈ bs, (∀ z ∈ B.ins, ∀ y ∈ rds z.k z.a z.b, G y) ∧ G B.a)
    (hQR : ∀ r, G r → ∀ i : Nat, i < bs.length → r ∈ Q i → r ∈ R i)
    (hc : (dfs (Go.Proofs.YtcpbijlcflaomaaGreatDoor.gof bs) bs.length).met.any (uB bs Q) = false) : (dfs (Go.Proofs.YtcpbijlcflaomaaGreatDoor.gof bt) bt.length).met.any (uB bt R) = false := by
  rw [h.gof, h.n]
  rw [List.any_eq_false] at hc ⊢
  intro q hq
  have hxr : 0 ≤ q ∧ q < bs.length := by
    cases (met_rch hn (gof_rng bs) q).1 hq with
    | zero => omega
    | step _ hk => exact gof_rng bs _ _ hk
  obtain ⟨i, rfl⟩ : ∃ i : Nat, q = i := ⟨q.toNat, by omega⟩
  have hi : i < bs.length := by omega
  have hci := hc i hq
  obtain ⟨A, B, h1, h2, h3, h4⟩ := h.l i hi
  have u1 : uB bs Q i = ruF A.ins (fun y => hasI y (Q i)) A.e A.a := by
    unfold uB
    simp only [Int.toNat_natCast, h1]
    exact ruB_ruF _ _ _ _
  have u2 : uB bt R i = ruF B.ins (fun y => hasI y (R i)) A.e A.a := by
    unfold uB
    simp only [Int.toNat_natCast, h2]
    rw [ruB_ruF, h3.2.1, h3.2.2.2.2]
  have hgA := hG A (List.mem_of_getElem? h1)
  have u3 : ruF A.ins (fun y => hasI y (Q i)) A.e A.a = false := by rw [u1] at hci; simpa using hci
  rw [u2, h4]
  suffices H : ∀ P : Int → Bool, (∀ y, G y → hasI y (Q i) = true → P y = true) → ruF A.ins P A.e A.a = false from by
    split
    · have e : ruF (x :: A.ins) (fun y => hasI y (R i)) A.e A.a = ruF A.ins (nxU (fun y => hasI y (R i)) x) A.e A.a := by rw [ruF, hx]; rfl
      rw [e, H _ (fun y hy hh => by
        have := (has_iffI _ _).2 (hQR y hy i hi ((has_iffI _ _).1 hh))
        simp [nxU, this])]
      simp
    · rw [H _ (fun y hy hh => (has_iffI _ _).2 (hQR y hy i hi ((has_iffI _ _).1 hh)))]
      simp
  intro P hP
  have e : ruF A.ins (fun y => P y || hasI y (Q i)) A.e A.a = ruF A.ins P A.e A.a := ruF_congr (R := G) _ _ _ hgA.1 (fun _ => hgA.2) (fun y hy => by
    cases hh : hasI y (Q i) with
    | true => rw [hP y hy hh]; rfl
    | false => simp)
  rw [← e]
  exact ruF_mono A.ins _ _ (fun y hy => by rw [hy]; simp) u3
end
/-- A program whose blocks may be, but for the place of their labels. -/
theorem prog1_mod {s : SmlM} {bs bt : List BlkM} {k : Nat} {x : InsM} (h8 : s.bs.length ≤ 8) (h : Prog1 s bs) (m : More bs bt k x) (hp : ∀ B ∈ bt, B.phis = []) (hx : insE x = 0 ∧ 0 ≤ x.k) : checkE bt = 0 ∧ (∀ B ∈ bt, BlkWf B) ∧ countM bt ≤ 200 ∧ ∀ B ∈ bt, B.ins.length ≤ 17 ∧ ∀ z ∈ B.ins, insE z = 0 ∧ 0 ≤ z.k := by
  have hl := len_in s h8
  have hn := h.n
  have each : ∀ B ∈ bt, B.ins.length ≤ 17 ∧ (∀ z ∈ B.ins, insE z = 0 ∧ 0 ≤ z.k) ∧ lastE (progL s) B.e B.a B.y B.n = 0 ∧ wfI B.lab ∧ wfI B.y ∧ wfI B.n := fun B hB => by
    obtain ⟨i, hi⟩ := List.getElem?_of_mem hB
    have hil : i < bs.length := by have := (List.getElem?_eq_some_iff.1 hi).1; rw [m.n] at this; exact this
    obtain ⟨A, B2, h1, h2, h3, h4⟩ := m.l i hil
    rw [hi] at h2
    cases h2
    have mA := List.mem_of_getElem? h1
    have g := h.g A mA
    have hz := h.size A mA
    unfold sizeB at hz
    obtain ⟨e1, e2, e3, e4, e5⟩ := h3
    refine ⟨?_, fun z hz2 => ?_, by rw [← e2, ← e3, ← e4, ← e5]; exact g.l, e1 ▸ g.b, e3 ▸ g.y, e4 ▸ g.n⟩
    · rw [h4]; split
      · simp only [List.length_cons]; omega
      · omega
    · rw [h4] at hz2
      split at hz2
      · rcases List.mem_cons.1 hz2 with rfl | hz2
        · exact hx
        · exact g.i z hz2
      · exact g.i z hz2
  have hcount : countM bt ≤ 200 := by
    have h1 : ∀ l : List BlkM, (∀ B ∈ l, B ∈ bt) → countM l ≤ l.length * 18 := fun l => by
      induction l with
      | nil => intro _; simp [countM]
      | cons B r ih =>
        intro hB
        have h2 := ih (fun C hC => hB C (by simp [hC]))
        have h3 := (each B (hB B (by simp))).1
        have h4 := hp B (hB B (by simp))
        have e : countM (B :: r) = 1 + B.phis.length + B.ins.length + countM r := by simp [countM]
        rw [e, h4, List.length_cons, Nat.add_mul]
        simp only [List.length_nil]; omega
    have := h1 bt (fun B hB => hB)
    rw [m.n, hn] at this
    omega
  refine ⟨?_, fun B hB => ⟨(each B hB).2.2.2.1, (each B hB).2.2.2.2.1, (each B hB).2.2.2.2.2, fun q hq => by rw [hp B hB] at hq; simp at hq, fun q hq => ((each B hB).2.1 q hq).2⟩, hcount, fun B hB => ⟨(each B hB).1, (each B hB).2.1⟩⟩
  have hls : labsE (labsOf bt) [] = 0 := by rw [m.labs, h.l]; exact labsE_ok _ _ (fun x hx => progL_small h8 hx) (progL_nodup s) (fun x _ => by simp)
  unfold checkE
  rw [if_neg (by rw [m.n]; omega), if_neg (by omega), if_neg (not_not_intro hls)]
  apply firstE_zeros
  intro y hy
  obtain ⟨B, hB, rfl⟩ := List.mem_map.1 hy
  rw [m.labs, h.l]
  unfold blkE
  rw [hp B hB]
  apply firstE_zeros
  intro z hz
  simp only [List.map_nil, List.nil_append, List.mem_append, List.mem_map, List.mem_cons, List.not_mem_nil, or_false] at hz
  rcases hz with ⟨q, hq, rfl⟩ | rfl
  · exact ((each B hB).2.1 q hq).1
  · exact (each B hB).2.2.1
end Go.Proofs.YtcpbijlcflaomaaGreatDoor


/- SureMore: memory. -/
set_option linter.unusedSimpArgs false
set_option linter.unusedVariables false
namespace Go.Proofs.YtcpbijlcflaomaaGreatDoor
open Go.RowKit Go.Sort Go.Maps

theorem wpList_append_s {P : Program} (w : World) {ops : Array Oper} {rest : List Oper} {o : Oper} {a : Act} {Q : Exit → Act → World → Prop} (hgd : o.guard = none) (s x : Operand) (t : TypeId)
    (ho : o.op = .call { callee := .builtin .append, args := #[s, x], argTypes := #[t, t] }) {e : TypeId} {z : Value} {sz bytes : Nat} (ht : P.underlying t = some (.slice e)) (hinfo : (P.info? e).map (fun i => (i.zero, i.size, i.bytes)) = some (some z, sz, bytes)) (hz : z.cells.size = sz) (hb : 0 < bytes)
    {b off n cap : Nat} {cs : List Value} (hs : a.eval s = .slice (some ⟨b, off, none⟩) n cap) (h : Sl w e sz (.slice (some ⟨b, off, none⟩) n cap) n cs) (v2 : Value) {m : Nat} {news : List Value} (hx : a.eval x = v2) (h2 : Sl w e sz v2 m news) (h1 : ∀ u ∈ news, u.oneCell' = true)
    (hbig : (n + m) * bytes ≤ 140737488355328)
    (hK : ∀ v' w', Sl w' e sz v' (n + m) (cs ++ news) → Tch (blks (.slice (some ⟨b, off, none⟩) n cap)) w w' → w.drawn ≤ w'.drawn → (∀ x ∈ blks v', x ∈ blks (.slice (some ⟨b, off, none⟩) n cap) ∨ w.heap.size ≤ x) → wpList P ops Q rest (a.put o.dst v') w') : wpList P ops Q (o :: rest) a w := by
  obtain ⟨v', w', p1, p2, p3, p4, p5⟩ := sl_append_s w ht hinfo hz hb h h2 h1 hbig o.type
  exact Lib.wpList_append_run _ hgd _ _ _ _ ho _ _ hs hx _ _ p1 (hK v' w' p2 p3 p4 p5)
theorem more_of {bs cl : List BlkM} (ha : cl.map BlkM.ab = bs.map BlkM.ab) {k : Nat} {B : BlkM} (hB : cl[k]? = some B) (v : Value) (x : InsM) : More bs (cl.take k ++ { B with iv := v, ins := x :: B.ins } :: cl.drop (k + 1)) k x := by
  have hn : cl.length = bs.length := by have := congrArg List.length ha; simpa using this
  have hk : k < cl.length := (List.getElem?_eq_some_iff.1 hB).1
  have hl : (cl.take k).length = k := by simp; omega
  refine ⟨by simp; omega, fun i hi => ?_⟩
  have hA : bs[i]? = some bs[i] := List.getElem?_eq_getElem hi
  have hC : cl[i]? = some (cl[i]'(by omega)) := List.getElem?_eq_getElem (by omega)
  have hab : (cl[i]'(by omega)).ab = (bs[i]).ab := by
    have h1 : (cl.map BlkM.ab)[i]? = (bs.map BlkM.ab)[i]? := by rw [ha]
    rw [List.getElem?_map, List.getElem?_map, hA, hC] at h1
    exact Option.some.inj h1
  unfold BlkM.ab at hab
  injection hab with e1 e2 e3 e4 e5 e6
  by_cases e : i = k
  · subst e
    have hBC : B = cl[i]'(by omega) := Option.some.inj (hB.symm.trans hC)
    refine ⟨_, { B with iv := v, ins := x :: B.ins }, hA, ?_, ?_, ?_⟩
    · rw [List.getElem?_append_right (by omega), hl]; simp
    · exact ⟨by rw [hBC]; exact e1.symm, by rw [hBC]; exact e3.symm, by rw [hBC]; exact e5.symm, by rw [hBC]; exact e6.symm, by rw [hBC]; exact e4.symm⟩
    · rw [if_pos rfl, hBC, e2]
  · refine ⟨_, cl[i]'(by omega), hA, ?_, ⟨e1.symm, e3.symm, e5.symm, e6.symm, e4.symm⟩, by rw [if_neg e, e2]⟩
    by_cases h2 : i < k
    · rw [List.getElem?_append_left (by omega), List.getElem?_take, if_pos h2, hC]
    · rw [List.getElem?_append_right (by omega), hl, show i - k = (i - (k + 1)) + 1 by omega, List.getElem?_cons_succ, List.getElem?_drop, show k + 1 + (i - (k + 1)) = i by omega, hC]
/-- A row of sets as Set leaves it. -/
def SetV (bs : List BlkM) (n : Nat) (w : World) (v : Value) : Prop := ∃ qb vQ Q lo, v = .slice (some ⟨qb, 0, none⟩) n n ∧ Qrs n lo w qb vQ Q ∧ (∀ i, (Q i).length ≤ 10000 * bs.length) ∧ (∀ r, wfi r → ∀ i : Nat, i < bs.length → (r ∈ Q i ↔ (i : Int) ∈ (dfs (gof bs) bs.length).met ∧ ¬ Wth (gof bs) (Sall bs) r i)) ∧ ∀ i : Nat, i < n → ∀ x ∈ Q i, wfi x
section
variable {bs : List BlkM} {n : Nat} {w w' : World} {v : Value}
theorem SetV.tch (h : SetV bs n w v) (t : Tch [] w w') : SetV bs n w' v := by
  obtain ⟨qb, vQ, Q, lo, e, q, r⟩ := h
  exact ⟨qb, vQ, Q, lo, e, q.tch t, r⟩
theorem SetV.far {b : Nat} {u : Value} (h : SetV bs n w v) (ho : w.heap[b]? = some (.cells #[u] 30 (0, 0))) (t : Tch [b] w w') : SetV bs n w' v := by
  obtain ⟨qb, vQ, Q, lo, e, q, r⟩ := h
  obtain ⟨⟨cs, o1, o2, o3⟩, q2, k, ll, up, lf⟩ := q
  refine ⟨qb, vQ, Q, lo, e, ⟨⟨cs, t.obj o1 (fun hm => ?_), o2, o3⟩, fun x => (q2 x).kept t (fun j hj hm => ?_), k, ll, up, lf⟩, r⟩
  · simp at hm; subst hm
    injection Option.some.inj (o1.symm.trans ho) with e1 e2
    exact absurd e2 (by decide)
  · simp at hm; subst hm
    obtain ⟨cur, h1⟩ := seg_obj (q2 x) _ hj
    injection Option.some.inj (h1.symm.trans ho) with e1 e2
    exact absurd e2 (by decide)
theorem setV_of {w0 : World} {e : Ending} (hn : 0 < bs.length) (h : USetW bs w0 w e) : ∃ v, e = .returned v ∧ SetV bs bs.length w v ∧ Tch [] w0 w := by
  obtain ⟨qb, vQ, Q, St, lo, e1, hQ, _, hSt, hQQ, hqb, t, hw, hq1⟩ := h
  exact ⟨_, e1, ⟨qb, vQ, Q, lo, rfl, hQ, hq1, fun r hr i hi => uset_iff hn hr hSt hQQ hi, hw⟩, t⟩
end
/-- Two rows of sets that are reckoned: what holds, by what is done. -/
structure R9 (bs bt : List BlkM) (n : Nat) (vp vq : Value) (w8 : World) (d : Nat → Bool) (x45 x46 x47 x48 x11 x10 : Value) (w : World) : Prop where
  t : Tch [] w8 w
  c0 : d 0 = true → x45 = .agg #[vp]
  c1 : d 1 = true → SetV bs n w x46
  c2 : d 2 = true → x47 = .agg #[vq]
  c3 : d 3 = true → SetV bt n w x48
  c4 : d 4 = true → ∃ b u, x11 = .pointer (some ⟨b, 0, none⟩) ∧ w8.heap.size ≤ b ∧ w.heap[b]? = some (.cells #[u] 30 (0, 0)) ∧ (d 6 = true → u = x48)
  c5 : d 5 = true → x10 = x46
  p5 : d 5 = true → d 1 = true
  p6 : d 6 = true → d 3 = true ∧ d 4 = true
theorem dn_o {d : Nat → Bool} {i j : Nat} (h : dn d i j = true) (hn : (j == i) = false) : d j = true := dn_other h hn
theorem dn_kp {d : Nat → Bool} {i j : Nat} (h : d j = true) : dn d i j = true := by unfold dn; split <;> simp [h]
theorem no_d {a : Bool} {P : Prop} (h : a = false) (h2 : a = true) : P := by rw [h] at h2; cases h2
section
variable {bs bt : List BlkM} {n : Nat} {vp vq : Value} {w8 w w' : World} {d : Nat → Bool} {x45 x46 x47 x48 x11 x10 : Value}
theorem R9.s0 (H : R9 bs bt n vp vq w8 d x45 x46 x47 x48 x11 x10 w) : R9 bs bt n vp vq w8 (dn d 0) (.agg #[vp]) x46 x47 x48 x11 x10 w := ⟨H.t, fun _ => rfl, fun h => H.c1 (dn_o h rfl), fun h => H.c2 (dn_o h rfl), fun h => H.c3 (dn_o h rfl), fun h => (H.c4 (dn_o h rfl)).imp fun b hb => hb.imp fun u hu => ⟨hu.1, hu.2.1, hu.2.2.1, fun h6 => hu.2.2.2 (dn_o h6 rfl)⟩, fun h => H.c5 (dn_o h rfl), fun h => dn_kp (H.p5 (dn_o h rfl)), fun h => ⟨dn_kp (H.p6 (dn_o h rfl)).1, dn_kp (H.p6 (dn_o h rfl)).2⟩⟩
theorem R9.s1 {y : Value} (H : R9 bs bt n vp vq w8 d x45 x46 x47 x48 x11 x10 w) (h1 : d 1 = false) (t : Tch [] w w') (hy : SetV bs n w' y) : R9 bs bt n vp vq w8 (dn d 1) x45 y x47 x48 x11 x10 w' := ⟨H.t.trans t, fun h => H.c0 (dn_o h rfl), fun _ => hy, fun h => H.c2 (dn_o h rfl), fun h => (H.c3 (dn_o h rfl)).tch t, fun h => (H.c4 (dn_o h rfl)).imp fun b hb => hb.imp fun u hu => ⟨hu.1, hu.2.1, t.obj hu.2.2.1 (by simp), fun h6 => hu.2.2.2 (dn_o h6 rfl)⟩, fun h => no_d h1 (H.p5 (dn_o h rfl)), fun h => dn_kp (H.p5 (dn_o h rfl)), fun h => ⟨dn_kp (H.p6 (dn_o h rfl)).1, dn_kp (H.p6 (dn_o h rfl)).2⟩⟩
theorem R9.s2 (H : R9 bs bt n vp vq w8 d x45 x46 x47 x48 x11 x10 w) : R9 bs bt n vp vq w8 (dn d 2) x45 x46 (.agg #[vq]) x48 x11 x10 w := ⟨H.t, fun h => H.c0 (dn_o h rfl), fun h => H.c1 (dn_o h rfl), fun _ => rfl, fun h => H.c3 (dn_o h rfl), fun h => (H.c4 (dn_o h rfl)).imp fun b hb => hb.imp fun u hu => ⟨hu.1, hu.2.1, hu.2.2.1, fun h6 => hu.2.2.2 (dn_o h6 rfl)⟩, fun h => H.c5 (dn_o h rfl), fun h => dn_kp (H.p5 (dn_o h rfl)), fun h => ⟨dn_kp (H.p6 (dn_o h rfl)).1, dn_kp (H.p6 (dn_o h rfl)).2⟩⟩
theorem R9.s3 {y : Value} (H : R9 bs bt n vp vq w8 d x45 x46 x47 x48 x11 x10 w) (h3 : d 3 = false) (t : Tch [] w w') (hy : SetV bt n w' y) : R9 bs bt n vp vq w8 (dn d 3) x45 x46 x47 y x11 x10 w' := ⟨H.t.trans t, fun h => H.c0 (dn_o h rfl), fun h => (H.c1 (dn_o h rfl)).tch t, fun h => H.c2 (dn_o h rfl), fun _ => hy, fun h => (H.c4 (dn_o h rfl)).imp fun b hb => hb.imp fun u hu => ⟨hu.1, hu.2.1, t.obj hu.2.2.1 (by simp), fun h6 => no_d h3 (H.p6 (dn_o h6 rfl)).1⟩, fun h => H.c5 (dn_o h rfl), fun h => dn_kp (H.p5 (dn_o h rfl)), fun h => ⟨dn_kp (H.p6 (dn_o h rfl)).1, dn_kp (H.p6 (dn_o h rfl)).2⟩⟩
theorem R9.s4 (H : R9 bs bt n vp vq w8 d x45 x46 x47 x48 x11 x10 w) (h4 : d 4 = false) : R9 bs bt n vp vq w8 (dn d 4) x45 x46 x47 x48 (.pointer (some ⟨w.heap.size, 0, none⟩)) x10 (w.alloc (.cells #[.slice none 0 0] 30)) := by
  have t : Tch [] w (w.alloc (.cells #[.slice none 0 0] 30)) := (Tch.refl [] w).alloc _
  exact ⟨H.t.trans t, fun h => H.c0 (dn_o h rfl), fun h => (H.c1 (dn_o h rfl)).tch t, fun h => H.c2 (dn_o h rfl), fun h => (H.c3 (dn_o h rfl)).tch t, fun _ => ⟨_, _, rfl, H.t.size, heap_alloc_new w _, fun h6 => no_d h4 (H.p6 (dn_o h6 rfl)).2⟩, fun h => H.c5 (dn_o h rfl), fun h => dn_kp (H.p5 (dn_o h rfl)), fun h => ⟨dn_kp (H.p6 (dn_o h rfl)).1, dn_kp (H.p6 (dn_o h rfl)).2⟩⟩
theorem R9.s5 (H : R9 bs bt n vp vq w8 d x45 x46 x47 x48 x11 x10 w) (h1 : d 1 = true) : R9 bs bt n vp vq w8 (dn d 5) x45 x46 x47 x48 x11 x46 w := ⟨H.t, fun h => H.c0 (dn_o h rfl), fun h => H.c1 (dn_o h rfl), fun h => H.c2 (dn_o h rfl), fun h => H.c3 (dn_o h rfl), fun h => (H.c4 (dn_o h rfl)).imp fun b hb => hb.imp fun u hu => ⟨hu.1, hu.2.1, hu.2.2.1, fun h6 => hu.2.2.2 (dn_o h6 rfl)⟩, fun _ => rfl, fun _ => dn_kp h1, fun h => ⟨dn_kp (H.p6 (dn_o h rfl)).1, dn_kp (H.p6 (dn_o h rfl)).2⟩⟩
theorem R9.s6 (H : R9 bs bt n vp vq w8 d x45 x46 x47 x48 x11 x10 w) (h3 : d 3 = true) (h4 : d 4 = true) : ∃ b u, x11 = .pointer (some ⟨b, 0, none⟩) ∧ w.heap[b]? = some (.cells #[u] 30 (0, 0)) ∧ R9 bs bt n vp vq w8 (dn d 6) x45 x46 x47 x48 x11 x10 (w.setCell ⟨b, 0, none⟩ x48) := by
  obtain ⟨b, u, hx, hb, ho, _⟩ := H.c4 h4
  have t : Tch [b] w (w.setCell ⟨b, 0, none⟩ x48) := (Tch.refl [b] w).setCell (p := ⟨b, 0, none⟩) (.inl (by simp)) _
  refine ⟨b, u, hx, ho, ⟨H.t.trans2 t (fun k hk => .inr (by simp at hk; subst hk; exact hb)), fun h => H.c0 (dn_o h rfl), fun h => (H.c1 (dn_o h rfl)).far ho t, fun h => H.c2 (dn_o h rfl), fun h => (H.c3 (dn_o h rfl)).far ho t, fun h => ⟨b, x48, hx, hb, heap_setCell_same _ _ _ _ _ _ ho, fun _ => rfl⟩, fun h => H.c5 (dn_o h rfl), fun h => dn_kp (H.p5 (dn_o h rfl)), fun _ => ⟨dn_kp h3, dn_kp h4⟩⟩⟩
end
theorem Upl.ok {w : World} {v : Value} {bs : List BlkM} (h : Upl w v bs) : ProgOk w v bs :=
  ⟨h.b, fun C hC => ⟨by rw [(h.p C hC).1, (h.p C hC).2]; exact Sl.nil _ _ _, fun z hz => by rw [(h.p C hC).2] at hz; simp at hz, h.i C hC⟩⟩
theorem set_ok6 {rm : Int} (h : 0 ≤ rm ∧ rm < 6) : insE (⟨0, 0, rm, 0, 0, 0, 0⟩ : InsM) = 0 ∧ 0 ≤ (⟨0, 0, rm, 0, 0, 0, 0⟩ : InsM).k := by
  have hc : rm = 0 ∨ rm = 1 ∨ rm = 2 ∨ rm = 3 ∨ rm = 4 ∨ rm = 5 := by omega
  rcases hc with rfl | rfl | rfl | rfl | rfl | rfl <;> decide
theorem lastE_reg {labs : List Int} {e a y n : Int} (h : lastE labs e a y n = 0) : regB a = true := by
  unfold lastE at h
  split at h
  · omega
  · split at h
    · omega
    · split at h
      · omega
      · rename_i h3; simpa using h3
/-- What is read are numbers of 64 bits. -/
def RdW (bs : List BlkM) : Prop := ∀ B ∈ bs, (∀ z ∈ B.ins, ∀ y ∈ rds z.k z.a z.b, wfi y) ∧ wfi B.a
theorem Prog1.rdw {s : SmlM} {bs : List BlkM} (h : Prog1 s bs) : RdW bs := fun B hB =>
  ⟨fun z hz y hy => regB_wfi (insE_rds ((h.ins B hB).2 z hz).1 y hy), regB_wfi (lastE_reg (h.g B hB).l)⟩
theorem More.rdw {bs bt : List BlkM} {k : Nat} {x : InsM} (h : More bs bt k x) (hr : RdW bs) (hi : ∀ B ∈ bt, ∀ z ∈ B.ins, insE z = 0) : RdW bt := fun B hB => by
  obtain ⟨i, hi2⟩ := List.getElem?_of_mem hB
  have hil : i < bs.length := by have := (List.getElem?_eq_some_iff.1 hi2).1; rw [h.n] at this; exact this
  obtain ⟨A, B2, h1, h2, h3, _⟩ := h.l i hil
  rw [hi2] at h2
  cases h2
  exact ⟨fun z hz y hy => regB_wfi (insE_rds (hi B hB z hz) y hy), by rw [← h3.2.2.2.2]; exact (hr A (List.mem_of_getElem? h1)).2⟩
theorem uB_same {bs : List BlkM} {Q R : Int → List Int} (hn : 0 < bs.length) (hG : RdW bs) (h : ∀ r, wfi r → ∀ i : Nat, i < bs.length → (r ∈ Q i ↔ r ∈ R i)) : (dfs (gof bs) bs.length).met.any (uB bs Q) = (dfs (gof bs) bs.length).met.any (uB bs R) := by
  have key : ∀ x ∈ (dfs (gof bs) bs.length).met, uB bs Q x = uB bs R x := fun x hx => by
    have hxr : 0 ≤ x ∧ x < bs.length := by
      cases (met_rch hn (gof_rng bs) x).1 hx with
      | zero => omega
      | step _ hk => exact gof_rng bs _ _ hk
    obtain ⟨i, rfl⟩ : ∃ i : Nat, x = i := ⟨x.toNat, by omega⟩
    obtain ⟨B, hB⟩ : ∃ B, bs[i]? = some B := ⟨bs[i]'(by omega), List.getElem?_eq_getElem (by omega)⟩
    have hg := hG B (List.mem_of_getElem? hB)
    unfold uB
    simp only [Int.toNat_natCast, hB]
    rw [ruB_ruF, ruB_ruF]
    exact ruF_congr (R := wfi) _ _ _ hg.1 (fun _ => hg.2) (fun y hy => bool_iff (by rw [has_iffI, has_iffI]; exact h y hy i (by omega)))
  refine bool_iff ?_
  rw [List.any_eq_true, List.any_eq_true]
  exact ⟨fun ⟨x, hx, h⟩ => ⟨x, hx, by rw [← key x hx]; exact h⟩, fun ⟨x, hx, h⟩ => ⟨x, hx, by rw [key x hx]; exact h⟩⟩
/-- **Check**, by the sets that Set leaves. -/
theorem check_by {w : World} {v : Value} {bs : List BlkM} {Q : Int → List Int} (hk : Kinds w) (hU : Upl w v bs) (hi : ∀ B ∈ bs, B.ins.length ≤ 100 ∧ ∀ x ∈ B.ins, 0 ≤ x.k ∧ wfi (io x.k 1 x.d)) (hn : 1 ≤ bs.length ∧ bs.length ≤ 100) (hw : PrgW bs) (hwf : ∀ x ∈ bs, BlkWf x) (hc : countM bs ≤ 200) (h0 : checkE bs = 0) (hG : RdW bs)
    (hQ : ∀ r, wfi r → ∀ i : Nat, i < bs.length → (r ∈ Q i ↔ (i : Int) ∈ (dfs (gof bs) bs.length).met ∧ ¬ Wth (gof bs) (Sall bs) r i)) :
    Calls Tryz.prog 19 #[.agg #[v]] w fun r w' => r = .returned (.int .i64 (if (dfs (gof bs) bs.length).met.any (uB bs Q) then 10 else 0)) ∧ Tch [] w w' :=
  (ucheck_plain v bs w hk hU hi hn hw hU.ok hwf (by omega) h0).mono fun r w' ⟨Q2, St2, hSt2, hQ2, _, e, t⟩ => by
    have := uB_same (Q := Q2) (R := Q) (by omega) hG (fun r hr i hi => (uset_iff (by omega) hr hSt2 hQ2 hi).trans (hQ r hr i hi).symm)
    exact ⟨by rw [e, this], t⟩
end Go.Proofs.YtcpbijlcflaomaaGreatDoor


/- Ranges within loops: the end of a function that went through many of them. -/
set_option linter.unusedSimpArgs false
set_option linter.unusedVariables false
namespace Go.Proofs.YtcpbijlcflaomaaGreatDoor
open Go.RowKit
attribute [local go_sem] Oper.semAt_some

/-- The mark of a range that was gone through. -/
def mkD (D : Nat) : Deferred := { target := .collected D, args := #[] }
/-- **The end of a function that went through many ranges.** -/
theorem leaves_many {F : Fence} {n : Nat} {P : Program} {fn : Func} {tmps : Array Value} {R : Ending → World → Prop} {u : FrameMode} (hu : u ≠ .run) : ∀ (ds : List Nat) (w : World), ds.Nodup → (∀ D ∈ ds, w.heap[D]? = some (.deferred (some []))) →
    (∀ w', Tch ds w w' → LeavesInM F n P fn tmps R [] u w') → LeavesInM F n P fn tmps R (ds.map mkD) u w
  | [], w, _, _, h => h w (Tch.refl _ _)
  | D :: ds, w, hn, hd, h => by
    obtain ⟨n1, n2⟩ := List.nodup_cons.1 hn
    have tp : Tch [D] w (w.putObj D (.deferred none)) := Tch.of_grown (S := [D]) (Go.grownBy_putObj' _ D _) (fun k e => by cases e; simp)
    refine ⟨hu, .inl ⟨D, _, rfl, run_takeDeferred (hd D (by simp)), ?_⟩⟩
    refine leaves_many hu ds _ n2 (fun E hE => tp.obj (hd E (by simp [hE])) (by simp; rintro rfl; exact n1 hE)) (fun w' t => h w' ((tp.mono (by simp)).trans (t.mono (fun k hk => by simp [hk]))))
end Go.Proofs.YtcpbijlcflaomaaGreatDoor


/- SureMore (P12.1: with one register more set at some place nothing is less sure): its walk. -/
set_option linter.unusedSimpArgs false
set_option linter.unusedVariables false
namespace Go.Proofs.YtcpbijlcflaomaaGreatDoor
open Go.RowKit Go.Sort Go.Maps Go.Shelf
attribute [local go_sem] Oper.semAt_some

set_option maxRecDepth 100000 in
set_option maxHeartbeats 16000000 in
theorem sureMore_walk (s : SmlM) (at_ r : Int) (w : World) (hk : Kinds w) (hs : SmlOk w s) (a0 : 0 ≤ at_) (a1 : at_ ≤ 255) (r0 : 0 ≤ r) (r1 : r ≤ 255) :
    Calls Tryz.prog 6 #[.agg #[.int .u8 s.r, .bool s.bare, s.bv], .int .u8 at_, .int .u8 r] w fun e w' => e = .returned (.bool true) ∧ Tch [] w w' := by
  have hmo : Tryz.prog.follows .mixedOrders = true := by kernel_rfl
  have HL := hid (fun W (h : SmlOk W s) => light_any s W h)
  have HPG := hid (fun W (hk : Kinds W) (h : SmlOk W s) hl => program_any s W hk h hl)
  obtain ⟨va, vc, hbv, _⟩ := hs.b.shape
  rw [hbv] at HL HPG
  rw [hbv]
  have HS := hid hs
  have HKI := hid hk
  clear hs hbv hk
  refine calls_marks Tryz.func6 rfl ?_
  simp only [Tryz.ntmps6, List.size_toArray, List.length_cons, List.length_nil, Nat.reduceAdd, Nat.reduceSub, Array.replicate_succ, Array.replicate_zero, List.push_toArray, List.append_toArray, List.nil_append, List.cons_append]
  go_upto_region 1 with fail
  generalize hW0 : (w.alloc (.cells #[.int .u8 s.r, .bool s.bare, .slice va s.bs.length vc] 24)).alloc (.cells #[.bool false] 4) = W0 at *
  have T0 : Hid (Tch [] w W0) := by rw [← hW0]; exact ((Tch.refl [] w).alloc _).alloc _
  have Z0 : Hid (W0.heap[w.heap.size]? = some (.cells #[.int .u8 s.r, .bool s.bare, .slice va s.bs.length vc] 24 (0, 0))) := by rw [← hW0]; exact ((Gr.refl _).alloc _).obj (heap_alloc_new w _)
  have R0 : Hid (W0.heap[w.heap.size + 1]? = some (.cells #[.bool false] 4 (0, 0))) := by
    rw [← hW0]
    have := heap_alloc_new (w.alloc (.cells #[.int .u8 s.r, .bool s.bare, .slice va s.bs.length vc] 24)) (.cells #[.bool false] 4)
    exact hid (by simpa using this)
  clear hW0
  have HAW := hid (awake_u W0 (kinds_tch HKI.out T0.out))
  go_upto_region 3 with (go_at_call 7; refine HAW.out.mono ?_; rintro r W1 ⟨rfl, t1⟩; have T1 := hid (T0.out.trans t1); have T01 := hid t1; have z := t1.obj Z0.out (by simp); have Z := hid z; have z0 := cell_of_row _ _ 0 _ _ _ z; have z1 := cell_of_row _ _ 1 _ _ _ z; have z2 := cell_of_row _ _ 2 _ _ _ z; simp only [List.getElem?_toArray, List.getElem?_cons_zero, List.getElem?_cons_succ] at z0 z1 z2; have lz := lt_of_obj z; clear t1 z HAW)
  by_cases hlb : lightB s = true
  rotate_left
  · have hlf : lightB s = false := by simpa using hlb
    rw [hlf] at HL
    clear hlb hlf HPG
    go_upto_region 4 with (go_at_call 8; refine (HL.out _ (HS.out.tch T1.out)).mono ?_; rintro r W2 ⟨rfl, g2⟩; have T2 := hid (T1.out.trans g2.tch); have T02 := hid (T01.out.trans g2.tch); clear g2)
    have ro := T02.out.obj R0.out (by simp)
    have rc := cell_of_row _ _ 0 _ _ _ ro
    simp only [List.getElem?_toArray, List.getElem?_cons_zero] at rc
    have rz : ∀ k, W2.frozen? ⟨w.heap.size + 1, k, none⟩ = false := fun k => frozen_of_row _ _ _ _ _ ro
    have lr := lt_of_obj ro
    have o3 : (W2.setCell ⟨w.heap.size + 1, 0, none⟩ (.bool true)).heap[w.heap.size + 1]? = some (.cells #[.bool true] 4 (0, 0)) := heap_setCell_same _ _ _ _ _ _ ro
    have t3 : Tch [] w (W2.setCell ⟨w.heap.size + 1, 0, none⟩ (.bool true)) := T2.out.setCell (p := ⟨w.heap.size + 1, 0, none⟩) (.inr (by simp)) _
    have e0 := cell_of_row _ _ 0 _ _ _ o3
    simp only [List.getElem?_toArray, List.getElem?_cons_zero] at e0
    go_wp2_with fail
    exact ⟨_, (show (results _ _).run _ _ = .ok (.bool true) _ by simp [results, Tryz.results6, go_sem, e0]), rfl, t3⟩
  rw [hlb] at HL
  have HPG := hid (fun W (hk : Kinds W) (h : SmlOk W s) => HPG.out W hk h hlb)
  have hl2 : (∀ b ∈ s.bs, b.ls.length ≤ 10) ∧ s.bs.length ≤ 8 := by simpa [lightB] using hlb
  have HL8 := hid hl2
  clear hlb hl2
  go_upto_region 5 with (go_at_call 8; refine (HL.out _ (HS.out.tch T1.out)).mono ?_; rintro r W2 ⟨rfl, g2⟩; have T2 := hid (T1.out.trans g2.tch); have T02 := hid (T01.out.trans g2.tch); have z := g2.tch.obj Z.out (by simp); have Z2 := hid z; have y0 := cell_of_row _ _ 0 _ _ _ z; have y1 := cell_of_row _ _ 1 _ _ _ z; have y2 := cell_of_row _ _ 2 _ _ _ z; simp only [List.getElem?_toArray, List.getElem?_cons_zero, List.getElem?_cons_succ] at y0 y1 y2; have ly := lt_of_obj z; clear g2 z)
  clear z0 z1 z2 lz
  have HK2 : Hid (Kinds W2) := kinds_tch HKI.out T2.out
  go_upto_region 6 with (go_at_call 9; refine (HPG.out _ HK2.out (HS.out.tch T2.out)).mono ?_; rintro r W3 ⟨v, bp, bs, rfl, own, hab, g3⟩; obtain ⟨pa, pc, rfl⟩ := own.b.shape; have T3 := hid (T2.out.trans g3.tch); have OW := hid own; have T03 := hid (T02.out.trans g3.tch); have HAB := hid hab; have Z3 := hid (g3.tch.obj Z2.out (by simp)); clear own hab g3 y0 y1 y2 ly)
  have P1 : Hid (Prog1 s bs) := prog1 HL8.out.2 HL8.out.1 HAB.out (fun B hB => (OW.out.p B hB).2)
  have hbl : bs.length ≤ 8 := by have h1 := P1.out.n; have h2 := HL8.out.2; unfold lenM at h1; omega
  have hbl1 : 1 ≤ bs.length := by have h1 := P1.out.n; unfold lenM at h1; omega
  have ta := (Tch.refl [] W3).alloc (.cells #[.slice pa bs.length pc] 28)
  have oa := heap_alloc_new W3 (.cells #[.slice pa bs.length pc] 28)
  have T4 := hid (T3.out.trans ta)
  have UP4 : Hid (Upl (W3.alloc (.cells #[.slice pa bs.length pc] 28)) (.slice pa bs.length pc) bs) := Upl.tch ⟨OW.out.b, OW.out.p, OW.out.i⟩ ta
  have OK4 : Hid (ProgOk (W3.alloc (.cells #[.slice pa bs.length pc] 28)) (.slice pa bs.length pc) bs) := OW.out.ok.tch ta
  have HPW : Hid (PrgW bs) := P1.out.w (OW.out.ok.v)
  have T04 := hid (T03.out.trans ta)
  have R4 := hid (T04.out.obj R0.out (by simp))
  clear HL HPG T0 T1 T2 Z HK2 Z2 Z3 T01 T02 T03 T04 R0 Z0
  generalize W3.alloc (.cells #[.slice pa bs.length pc] 28) = W4 at *
  have O4 := hid oa
  clear ta T3 OW oa
  generalize W3.heap.size = pb at *
  have HK4 : Hid (Kinds W4) := kinds_tch HKI.out T4.out
  have HCL := hid (clone_any (.slice pa bs.length pc) bs hbl1 (by omega) W4 OK4.out (fun B hB => ⟨(UP4.out.p B hB).1, (UP4.out.p B hB).2⟩) (fun B hB => by have := (P1.out.ins B hB).1; omega))
  have c4 := cell_of_row _ _ 0 _ _ _ O4.out
  simp only [List.getElem?_toArray, List.getElem?_cons_zero] at c4
  have l4 := lt_of_obj O4.out
  go_upto_region 7 with (go_at_call 21; refine HCL.out.mono ?_; rintro e W5 ⟨v5, cl, rfl, ow5, ab5, g5, ap5⟩; have hcn : cl.length = bs.length := (by have := congrArg List.length ab5; simpa using this); obtain ⟨cb, co, cc, hv5⟩ := ow5.b.ptr (by omega); rw [hcn] at hv5; subst hv5; have OW5 := hid ow5; have AB5 := hid ab5; have T45 := hid g5.tch; have AP5 := hid ap5; clear ow5 ab5 g5 ap5)
  clear c4 l4 HCL
  have t6 := (Tch.refl [] W5).alloc (.cells #[.slice (some ⟨cb, co, none⟩) bs.length cc] 28)
  have o6 := heap_alloc_new W5 (.cells #[.slice (some ⟨cb, co, none⟩) bs.length cc] 28)
  have T46 := hid (T45.out.trans t6)
  have CB : Hid (W4.heap.size ≤ cb ∧ ¬ cb = W5.heap.size ∧ pb < W4.heap.size ∧ w.heap.size + 1 < W4.heap.size) := ⟨(OW5.out.o cb (by simp [blks])).1, (OW5.out.o cb (by simp [blks])).2, lt_of_obj O4.out, lt_of_obj R4.out⟩
  have SB6 : Hid (Sl (W5.alloc (.cells #[.slice (some ⟨cb, co, none⟩) bs.length cc] 28)) 52 7 (.slice (some ⟨cb, co, none⟩) bs.length cc) bs.length (blkC cl)) := by
    have h := OW5.out.b.kept t6 (by simp)
    rwa [hcn] at h
  have SI6 : Hid (∀ B ∈ cl, Sl (W5.alloc (.cells #[.slice (some ⟨cb, co, none⟩) bs.length cc] 28)) 56 7 B.iv B.ins.length (insC B.ins)) := fun B hB => (OW5.out.i B hB).kept t6 (by simp)
  have HPC : Hid (∀ B ∈ cl, B.pv = .slice none 0 0 ∧ B.phis = []) := OW5.out.p
  have HQC : Hid (∀ B ∈ cl, ∀ x ∈ blks B.iv, ¬ x = cb) := fun B hB x hx e => (OW5.out.q B hB x hx).2.2 (by simp [blks, e])
  generalize W5.alloc (.cells #[.slice (some ⟨cb, co, none⟩) bs.length cc] 28) = W6 at *
  have O6 := hid o6
  clear t6 o6 T45 OW5 AP5
  generalize W5.heap.size = qb at *
  have c6 := cell_of_row _ _ 0 _ _ _ O6.out
  simp only [List.getElem?_toArray, List.getElem?_cons_zero] at c6
  have l6 := lt_of_obj O6.out
  obtain ⟨im, him⟩ : ∃ im : Nat, (im : Int) = at_ % (bs.length : Int) := ⟨(at_ % (bs.length : Int)).toNat, Int.toNat_of_nonneg (Int.emod_nonneg at_ (show (bs.length : Int) ≠ 0 by omega))⟩
  have hin : im < bs.length := by
    have h9 := Int.emod_lt_of_pos at_ (show (0 : Int) < (bs.length : Int) by omega)
    rw [← him] at h9; omega
  have ht1 : IntKind.i64.wrap at_ = at_ := by rw [IntKind.wrap_i64]; omega
  have ht2 : at_.tmod (bs.length : Int) = (im : Int) := by rw [Int.tmod_eq_emod_of_nonneg a0, him]
  have ht3 : IntKind.i64.wrap (im : Int) = (im : Int) := by rw [IntKind.wrap_i64]; omega
  have hn0 : ¬ ((bs.length : Int) = 0) := by omega
  have hn1 : ((bs.length : Int) == 0) = false := beq_eq_false_iff_ne.2 hn0
  have hn2 : ¬ ((bs.length : Int) = -1) := by omega
  clear him
  go_upto_region 7 with fail
  go_quiet (fail)
  have t67 : Tch [] W6 (W6.drewN nq) := ((Gr.refl W6).drewN nq).tch
  have T47 := hid (T46.out.trans t67)
  have SB7 := hid (SB6.out.kept t67 (by simp))
  have SI7 : Hid (∀ B ∈ cl, Sl (W6.drewN nq) 56 7 B.iv B.ins.length (insC B.ins)) := fun B hB => (SI6.out B hB).kept t67 (by simp)
  have O7 := hid (t67.obj O6.out (by simp))
  clear c6 l6 SB6 SI6 O6 T46 t67 ht1 ht2 ht3 hn0 hn1 hn2
  generalize W6.drewN nq = W7 at *
  obtain ⟨B, hB⟩ : ∃ B, cl[im]? = some B := ⟨cl[im]'(by omega), List.getElem?_eq_getElem (by omega)⟩
  have mB := List.mem_of_getElem? hB
  have sB := SB7.out
  have hcl : cl = cl.take im ++ B :: cl.drop (im + 1) := by
    have h1 := List.drop_eq_getElem_cons (show im < cl.length by omega)
    have h2 : cl[im]'(by omega) = B := Option.some.inj ((List.getElem?_eq_getElem (by omega)).symm.trans hB)
    rw [h2] at h1
    rw [← h1, List.take_append_drop]
  have htl : (cl.take im).length = im := by simp; omega
  rw [← hcn] at sB
  obtain ⟨y0, y1, y2, y3, y4, y5, y6⟩ := blk_at sB im hB
  have sIB := SI7.out B mB
  obtain ⟨ia, ic, hiv⟩ := sIB.shape
  have hBl : B.ins.length ≤ 100 := by
    have h1 : B.ab ∈ bs.map BlkM.ab := by rw [← AB5.out]; exact List.mem_map.2 ⟨B, mB, rfl⟩
    obtain ⟨C, hC, e⟩ := List.mem_map.1 h1
    have h2 := (P1.out.ins C hC).1
    have h3 : C.ins = B.ins := congrArg ABlk.ins e
    rw [← h3]; exact h2
  obtain ⟨rm, hrm⟩ : ∃ rm, r % 6 = rm := ⟨_, rfl⟩
  have hr1 : r.tmod 6 = rm := by rw [Int.tmod_eq_emod_of_nonneg r0, hrm]
  have hrm6 : 0 ≤ rm ∧ rm < 6 := by omega
  have hr2 : IntKind.u8.wrap rm = rm := by rw [IntKind.wrap_u8]; omega
  have hr3 : IntKind.i64.wrap rm = rm := by rw [IntKind.wrap_i64]; omega
  have HMO : Hid (∀ v, More bs (cl.take im ++ { B with iv := v, ins := (⟨0, 0, rm, 0, 0, 0, 0⟩ : InsM) :: B.ins } :: cl.drop (im + 1)) im (⟨0, 0, rm, 0, 0, 0, 0⟩ : InsM)) := fun v => more_of AB5.out hB v (⟨0, 0, rm, 0, 0, 0, 0⟩ : InsM)
  have HSM : Hid (∀ W u, Tch [] W7 W → Sl (W.setCell ⟨cb, co + im * 7 + 2, none⟩ u) 52 7 (.slice (some ⟨cb, co, none⟩) bs.length cc) bs.length (blkC (cl.take im ++ { B with iv := u, ins := (⟨0, 0, rm, 0, 0, 0, 0⟩ : InsM) :: B.ins } :: cl.drop (im + 1)))) := fun W u t => by
    have h := SB7.out.kept t (by simp)
    rw [hcl] at h
    exact sl_mid htl h 2 (by omega) u rfl
  rw [hiv] at y2 sIB
  have SIB := hid sIB
  have cy2 := y2
  have lcb : cb < W7.heap.size := cell_lt y2
  obtain ⟨cob, cot, hco, hcot⟩ : ∃ (cs : Array Value) (T : TypeId), W7.heap[cb]? = some (.cells cs T (0, 0)) ∧ T = 52 := by
    obtain ⟨_, ⟨h1, _⟩ | ⟨b', off', cap, cur, e1, h1, _⟩⟩ := SB7.out
    · cases h1
    · cases e1; exact ⟨cur, 52, h1, rfl⟩
  have fcb : ∀ k, W7.frozen? ⟨cb, k, none⟩ = false := fun k => frozen_of_row _ _ _ _ _ hco
  clear hrm r0 r1
  have HFC := hid fcb
  clear y0 y1 y3 y4 y5 y6 sB fcb
  go_upto_region 9 with (at_builtin; refine wpList_append_s _ rfl _ _ 47 rfl Tryz.underlying47 info_ins rfl (by decide) rfl (sl_new W7 _ rfl 56 7 1 [.int .u8 0, .int .u8 0, .int .i64 rm, .int .i64 0, .int .i64 0, .int .i64 0, .int .i64 0] rfl (by simp [maxLen])) (.slice ia B.ins.length ic) rfl (SIB.out.kept ((Tch.refl [] W7).alloc (.cells #[.int .u8 0, .int .u8 0, .int .i64 rm, .int .i64 0, .int .i64 0, .int .i64 0, .int .i64 0] 56)) (by simp)) (ins_one _) (by omega) ?_; intro v2 x2 sC tC dC oC; obtain ⟨va2, vc2, hv2⟩ := sC.shape; subst hv2; have SC := hid sC; have OC := hid oC; have tw : Tch [] W7 x2 := ((Tch.refl [] W7).alloc (.cells #[.int .u8 0, .int .u8 0, .int .i64 rm, .int .i64 0, .int .i64 0, .int .i64 0, .int .i64 0] 56)).trans2 tC (fun k hk => .inr (by simp [blks] at hk; omega)); have TW := hid tw; have cz := tw.val0 cy2; have fz : ∀ k, x2.frozen? ⟨cb, k, none⟩ = false := (fun k => frozen_of_row _ _ _ _ _ (tw.obj hco (by simp))); have lz2 : cb < x2.heap.size := Nat.lt_of_lt_of_le lcb tw.size; clear sC tC dC oC tw)
  clear cz fz lz2 y2 cy2
  obtain ⟨bt, hbt⟩ : ∃ bt, (cl.take im ++ { B with iv := .slice va2 (1 + B.ins.length) vc2, ins := (⟨0, 0, rm, 0, 0, 0, 0⟩ : InsM) :: B.ins } :: cl.drop (im + 1)) = bt := ⟨_, rfl⟩
  have MO := hid (HMO.out (.slice va2 (1 + B.ins.length) vc2))
  have SM9 := hid (HSM.out x2 (.slice va2 (1 + B.ins.length) vc2) TW.out)
  rw [hbt] at MO SM9
  have hbn : bt.length = bs.length := MO.out.n
  have t9 : Tch [cb] x2 (x2.setCell ⟨cb, co + im * 7 + 2, none⟩ (.slice va2 (1 + B.ins.length) vc2)) := (Tch.refl [cb] x2).setCell (p := ⟨cb, co + im * 7 + 2, none⟩) (.inl (by simp)) _
  have UQ9 : Hid (Upl (x2.setCell ⟨cb, co + im * 7 + 2, none⟩ (.slice va2 (1 + B.ins.length) vc2)) (.slice (some ⟨cb, co, none⟩) bs.length cc) bt) := by
    have mem : ∀ C ∈ bt, C ∈ cl ∨ C = { B with iv := .slice va2 (1 + B.ins.length) vc2, ins := (⟨0, 0, rm, 0, 0, 0, 0⟩ : InsM) :: B.ins } := fun C hC => by
      rw [← hbt] at hC
      rcases List.mem_append.1 hC with h | h
      · exact .inl (List.mem_of_mem_take h)
      · rcases List.mem_cons.1 h with h | h
        · exact .inr h
        · exact .inl (List.mem_of_mem_drop h)
    refine ⟨by rw [hbn]; exact SM9.out, fun C hC => ?_, fun C hC => ?_⟩
    · rcases mem C hC with h | rfl
      · exact HPC.out C h
      · exact HPC.out B mB
    · rcases mem C hC with h | rfl
      · exact ((SI7.out C h).kept TW.out (by simp)).kept t9 (fun k hk hm => by simp at hm; exact HQC.out C h k hk hm)
      · have h1 := SC.out.kept t9 (fun k hk hm => by
          simp at hm
          rcases OC.out k hk with h2 | h2
          · simp [blks] at h2; omega
          · simp at h2; omega)
        show Sl _ _ _ (.slice va2 (1 + B.ins.length) vc2) (B.ins.length + 1) (insC ((⟨0, 0, rm, 0, 0, 0, 0⟩ : InsM) :: B.ins))
        rw [show B.ins.length + 1 = 1 + B.ins.length by omega]
        exact h1
  have T49 := hid ((T47.out.trans TW.out).trans2 t9 (fun k hk => .inr (by simp at hk; subst hk; exact CB.out.1)))
  have O9 := hid (t9.obj (TW.out.obj O7.out (by simp)) (by simp; exact fun e => CB.out.2.1 e.symm))
  have OP9 := hid (T49.out.obj O4.out (by simp))
  have R9o := hid (T49.out.obj R4.out (by simp))
  have T9 := hid (T4.out.trans T49.out)
  have UP9 := hid (UP4.out.tch T49.out)
  have SIZE9 : Hid (w.heap.size + 1 < W4.heap.size ∧ W4.heap.size ≤ (x2.setCell ⟨cb, co + im * 7 + 2, none⟩ (.slice va2 (1 + B.ins.length) vc2)).heap.size) := ⟨CB.out.2.2.2, T49.out.size⟩
  clear t9 SC OC TW hbt SM9 HMO HSM SIB sIB hcot hco lcb hcl htl O7 T47 SB7 SI7 HFC O4 R4 UP4 T4 T49 HPC HQC AB5 mB hB hiv hr1 hr2 hr3
  generalize x2.setCell ⟨cb, co + im * 7 + 2, none⟩ (.slice va2 (1 + B.ins.length) vc2) = W9 at *
  clear hBl
  have PM := hid (prog1_mod HL8.out.2 P1.out MO.out (fun C hC => (UQ9.out.p C hC).2) (set_ok6 hrm6))
  have HPWT : Hid (PrgW bt) := fun C hC => ⟨(PM.out.2.1 C hC).l, (PM.out.2.1 C hC).y, (PM.out.2.1 C hC).n, ⟨_, _, _, (UQ9.out.p C hC).1⟩, (by obtain ⟨a, c, e⟩ := (UQ9.out.i C hC).shape; exact ⟨a, _, c, e⟩)⟩
  have HI17 : Hid (∀ C ∈ bt, C.ins.length ≤ 100 ∧ ∀ x ∈ C.ins, 0 ≤ x.k ∧ wfi (io x.k 1 x.d)) := fun C hC => ⟨by have := (PM.out.2.2.2 C hC).1; omega, fun x hx => ⟨((PM.out.2.2.2 C hC).2 x hx).2, insE_set ((PM.out.2.2.2 C hC).2 x hx).1⟩⟩
  have HK9 : Hid (Kinds W9) := kinds_tch HKI.out T9.out
  have HSP : Hid (∀ W, Tch [] W9 W → Calls Tryz.prog 10 #[.agg #[.slice pa bs.length pc]] W fun e w' => ∃ v, e = .returned v ∧ SetV bs bs.length w' v ∧ Tch [] W w') := fun W t => (uset_w (kinds_tch HK9.out t) (UP9.out.tch t).b (fun C hC => ⟨(UP9.out.tch t).i C hC, P1.out.ins2 C hC⟩) ⟨hbl1, by omega⟩ HPW.out).mono fun e w' h => setV_of (by omega) h
  have HSQ : Hid (∀ W, Tch [] W9 W → Calls Tryz.prog 10 #[.agg #[.slice (some ⟨cb, co, none⟩) bs.length cc]] W fun e w' => ∃ v, e = .returned v ∧ SetV bt bs.length w' v ∧ Tch [] W w') := fun W t => (uset_w (kinds_tch HK9.out t) (UQ9.out.tch t).b (fun C hC => ⟨(UQ9.out.tch t).i C hC, HI17.out C hC⟩) ⟨by omega, by omega⟩ HPWT.out).mono fun e w' h => by
    obtain ⟨v, e1, sv, t2⟩ := setV_of (by omega) h
    exact ⟨v, e1, by rw [← hbn]; exact sv, t2⟩
  refine wp_region_inv (fun A0 d a wv => ∃ x45 x46 x47 x48 x11 x10, a = ((((((A0.put (some 45) x45).put (some 46) x46).put (some 47) x47).put (some 48) x48).put (some 11) x11).put (some 10) x10) ∧ Hid (R9 bs bt bs.length (.slice pa bs.length pc) (.slice (some ⟨cb, co, none⟩) bs.length cc) W9 d x45 x46 x47 x48 x11 x10 wv)) hmo (by kernel_rfl) ?_ ?_ ?_
  · refine ⟨undef, undef, undef, undef, undef, undef, by simp only [Act.put, List.setIfInBounds_toArray, List.set_cons_zero, List.set_cons_succ], ?_⟩
    exact ⟨(Tch.refl [] W9).drew, fun h => absurd h (by decide), fun h => absurd h (by decide), fun h => absurd h (by decide), fun h => absurd h (by decide), fun h => absurd h (by decide), fun h => absurd h (by decide), fun h => absurd h (by decide), fun h => absurd h (by decide)⟩
  · intro i o ho d a wv hd0 hdep hI
    have hi : i < 7 := by have := (Array.getElem?_eq_some_iff.1 ho).1; simpa using this
    have hc : i = 0 ∨ i = 1 ∨ i = 2 ∨ i = 3 ∨ i = 4 ∨ i = 5 ∨ i = 6 := by omega
    rcases hc with rfl | rfl | rfl | rfl | rfl | rfl | rfl
    · cases ho
      obtain ⟨x45, x46, x47, x48, x11, x10, rfl, H⟩ := hI
      refine inv_step rfl (fun K' hK => ?_)
      try simp only [Act.put, List.setIfInBounds_toArray, List.set_cons_zero, List.set_cons_succ]
      have oo := H.out.t.obj OP9.out (by simp)
      have cc0 := cell_of_row _ _ 0 _ _ _ oo
      simp only [List.getElem?_toArray, List.getElem?_cons_zero] at cc0
      have lo0 := lt_of_obj oo
      clear oo
      go_simp
      exact hK.out _ _ ⟨(.agg #[(.slice pa bs.length pc)]), x46, x47, x48, x11, x10, by simp only [Act.put, List.setIfInBounds_toArray, List.set_cons_zero, List.set_cons_succ], H.out.s0⟩
    · cases ho
      obtain ⟨x45, x46, x47, x48, x11, x10, rfl, H⟩ := hI
      refine inv_step rfl (fun K' hK => ?_)
      try simp only [Act.put, List.setIfInBounds_toArray, List.set_cons_zero, List.set_cons_succ]
      have e1 := H.out.c0 (hdep ⟨0, .data⟩ (by simp) (by rfl))
      subst e1
      go_simp
      go_at_call 10
      refine (HSP.out _ H.out.t).mono ?_
      rintro e y1 ⟨v, rfl, sv, t⟩
      try go_simp
      exact hK.out _ _ ⟨(.agg #[(.slice pa bs.length pc)]), v, x47, x48, x11, x10, by simp only [Act.put, List.setIfInBounds_toArray, List.set_cons_zero, List.set_cons_succ], H.out.s1 hd0 t sv⟩
    · cases ho
      obtain ⟨x45, x46, x47, x48, x11, x10, rfl, H⟩ := hI
      refine inv_step rfl (fun K' hK => ?_)
      try simp only [Act.put, List.setIfInBounds_toArray, List.set_cons_zero, List.set_cons_succ]
      have oo := H.out.t.obj O9.out (by simp)
      have cc0 := cell_of_row _ _ 0 _ _ _ oo
      simp only [List.getElem?_toArray, List.getElem?_cons_zero] at cc0
      have lo0 := lt_of_obj oo
      clear oo
      go_simp
      exact hK.out _ _ ⟨x45, x46, (.agg #[(.slice (some ⟨cb, co, none⟩) bs.length cc)]), x48, x11, x10, by simp only [Act.put, List.setIfInBounds_toArray, List.set_cons_zero, List.set_cons_succ], H.out.s2⟩
    · cases ho
      obtain ⟨x45, x46, x47, x48, x11, x10, rfl, H⟩ := hI
      refine inv_step rfl (fun K' hK => ?_)
      try simp only [Act.put, List.setIfInBounds_toArray, List.set_cons_zero, List.set_cons_succ]
      have e1 := H.out.c2 (hdep ⟨2, .data⟩ (by simp) (by rfl))
      subst e1
      go_simp
      go_at_call 10
      refine (HSQ.out _ H.out.t).mono ?_
      rintro e y1 ⟨v, rfl, sv, t⟩
      try go_simp
      exact hK.out _ _ ⟨x45, x46, (.agg #[(.slice (some ⟨cb, co, none⟩) bs.length cc)]), v, x11, x10, by simp only [Act.put, List.setIfInBounds_toArray, List.set_cons_zero, List.set_cons_succ], H.out.s3 hd0 t sv⟩
    · cases ho
      obtain ⟨x45, x46, x47, x48, x11, x10, rfl, H⟩ := hI
      refine inv_step rfl (fun K' hK => ?_)
      try simp only [Act.put, List.setIfInBounds_toArray, List.set_cons_zero, List.set_cons_succ]
      go_simp
      exact hK.out _ _ ⟨x45, x46, x47, x48, (.pointer (some ⟨wv.heap.size, 0, none⟩)), x10, by simp only [Act.put, List.setIfInBounds_toArray, List.set_cons_zero, List.set_cons_succ], H.out.s4 hd0⟩
    · cases ho
      obtain ⟨x45, x46, x47, x48, x11, x10, rfl, H⟩ := hI
      refine inv_step rfl (fun K' hK => ?_)
      try simp only [Act.put, List.setIfInBounds_toArray, List.set_cons_zero, List.set_cons_succ]
      go_simp
      exact hK.out _ _ ⟨x45, x46, x47, x48, x11, x46, by simp only [Act.put, List.setIfInBounds_toArray, List.set_cons_zero, List.set_cons_succ], H.out.s5 (hdep ⟨1, .data⟩ (by simp) (by rfl))⟩
    · cases ho
      obtain ⟨x45, x46, x47, x48, x11, x10, rfl, H⟩ := hI
      refine inv_step rfl (fun K' hK => ?_)
      try simp only [Act.put, List.setIfInBounds_toArray, List.set_cons_zero, List.set_cons_succ]
      obtain ⟨b, u, hx, ho, R⟩ := H.out.s6 (hdep ⟨3, .data⟩ (by simp) (by rfl)) (hdep ⟨4, .data⟩ (by simp) (by rfl))
      obtain ⟨qv, _, _, _, e48, _⟩ := H.out.c3 (hdep ⟨3, .data⟩ (by simp) (by rfl))
      subst hx e48
      have q0 := cell_of_row _ _ 0 _ _ _ ho
      have fz : ∀ k, wv.frozen? ⟨b, k, none⟩ = false := fun k => frozen_of_row _ _ _ _ _ ho
      have lc := lt_of_obj ho
      simp only [List.getElem?_toArray, List.getElem?_cons_zero] at q0
      go_simp
      exact hK.out _ _ ⟨x45, x46, x47, (.slice (some ⟨qv, 0, none⟩) bs.length bs.length), (.pointer (some ⟨b, 0, none⟩)), x10, by simp only [Act.put, List.setIfInBounds_toArray, List.set_cons_zero, List.set_cons_succ], R⟩
  intro d a w2 hall hI
  obtain ⟨x45, x46, x47, x48, x11, x10, rfl, H⟩ := hI
  refine NoPanic.normal ?_
  try simp only [Act.put, List.setIfInBounds_toArray, List.set_cons_zero, List.set_cons_succ]
  have e0 := H.out.c0 (hall _)
  have e2 := H.out.c2 (hall _)
  have e5 := H.out.c5 (hall _)
  obtain ⟨yb, u, e11, hyb, oy, hu⟩ := H.out.c4 (hall _)
  have hu6 := hu (hall _)
  obtain ⟨sb1, vQ1, Q1, lo1, e46, q1, ql1, qi1, qw1⟩ := H.out.c1 (hall _)
  obtain ⟨sb2, vQ2, Q2, lo2, e48, q2, ql2, qi2, qw2⟩ := H.out.c3 (hall _)
  have T2 := hid H.out.t
  subst hu6
  subst e0 e2 e5 e11 e46 e48
  have OY := hid oy
  have QA := hid q1
  have QB := hid q2
  have HYB := hid hyb
  have HLA := hid ql1
  have HLB := hid ql2
  have HIA := hid qi1
  have HIB := hid qi2
  have HWA := hid qw1
  have HMR : Hid (∀ r, wfi r → ∀ i : Nat, i < bs.length → r ∈ Q1 i → r ∈ Q2 i) := fun r hr i hi hm => MO.out.sure (by omega) (fun i hi => HIA.out r hr i hi) (fun i hi => HIB.out r hr i hi) i hi hm
  clear H hu hyb oy q1 q2 ql1 ql2 qi1 qi2 qw1 HSP HSQ
  have HRD := hid P1.out.rdw
  have HCP : Hid (∀ W, Tch [] w2 W → Calls Tryz.prog 19 #[.agg #[.slice pa bs.length pc]] W fun r w' => r = .returned (.int .i64 (if (dfs (gof bs) bs.length).met.any (uB bs Q1) then 10 else 0)) ∧ Tch [] W w') := fun W t => check_by (kinds_tch HK9.out (T2.out.trans t)) (UP9.out.tch (T2.out.trans t)) P1.out.ins2 ⟨hbl1, by omega⟩ HPW.out P1.out.wf (by have := P1.out.count HL8.out.2; omega) (P1.out.ok HL8.out.2) HRD.out HIA.out
  have HCQ : Hid (∀ W, Tch [] w2 W → Calls Tryz.prog 19 #[.agg #[.slice (some ⟨cb, co, none⟩) bs.length cc]] W fun r w' => r = .returned (.int .i64 (if (dfs (gof bt) bt.length).met.any (uB bt Q2) then 10 else 0)) ∧ Tch [] W w') := fun W t => by
    have h := check_by (v := .slice (some ⟨cb, co, none⟩) bs.length cc) (kinds_tch HK9.out (T2.out.trans t)) (UQ9.out.tch (T2.out.trans t)) HI17.out ⟨by omega, by omega⟩ HPWT.out PM.out.2.1 PM.out.2.2.1 PM.out.1 (MO.out.rdw HRD.out (fun B hB z hz => ((PM.out.2.2.2 B hB).2 z hz).1)) HIB.out
    exact h
  have HBB : Hid ((dfs (gof bs) bs.length).met.any (uB bs Q1) = false → (dfs (gof bt) bt.length).met.any (uB bt Q2) = false) := MO.out.check (by show rds 0 0 0 = []; decide) (by omega) (G := wfi) HRD.out HMR.out
  obtain ⟨bp1, hbp1⟩ : ∃ b, (dfs (gof bs) bs.length).met.any (uB bs Q1) = b := ⟨_, rfl⟩
  obtain ⟨bq1, hbq1⟩ : ∃ b, (dfs (gof bt) bt.length).met.any (uB bt Q2) = b := ⟨_, rfl⟩
  rw [hbp1] at HCP HBB
  rw [hbq1] at HCQ HBB
  have OP2 := hid (T2.out.obj OP9.out (by simp))
  have OQ2 := hid (T2.out.obj O9.out (by simp))
  have R2o := hid (T2.out.obj R9o.out (by simp))
  have TW2 := hid (T9.out.trans T2.out)
  have LZ2 : Hid (w.heap.size + 1 < w2.heap.size) := lt_of_obj R2o.out
  clear hbp1 hbq1 HIA HIB HRD PM UP9 UQ9 HI17 HPWT HPW P1 HAB HL8 HKI HK9 HS HPG OK4 CB O9 OP9 R9o T9 T2 MO SIZE9 HYB hall qw2 HK4
  generalize W7.heap.size = W7s at *
  generalize B.ins.length = Bl at *
  go_wp2_with fail
  refine wp_loop (fun a W => ∃ (i : Nat) (ds : List Nat) (v51 u12 u13 u52 u53 u54 u55 u56 u57 u58 u59 u60 u61 u62 u63 u64 u65 u66 u67 : Value), a = { tmps := #[.agg #[.int .u8 s.r, .bool s.bare, .slice va s.bs.length vc], .int .u8 at_, .int .u8 r, .pointer (some ⟨w.heap.size, 0, none⟩), undef, undef, .pointer (some ⟨w.heap.size + 1, 0, none⟩), .pointer (some ⟨pb, 0, none⟩), .pointer (some ⟨qb, 0, none⟩), .pointer (some ⟨cb, co + im * 7, none⟩), .slice (some ⟨sb1, 0, none⟩) bs.length bs.length, .pointer (some ⟨yb, 0, none⟩), u12, u13, .bool true, .bool false, .agg #[.int .u8 s.r, .bool s.bare, .slice va s.bs.length vc], .bool true, .bool false, .agg #[.int .u8 s.r, .bool s.bare, .slice va s.bs.length vc], .agg #[.slice pa bs.length pc], .agg #[.slice pa bs.length pc], .agg #[.slice (some ⟨cb, co, none⟩) bs.length cc], .pointer (some ⟨qb, 0, none⟩), .slice (some ⟨cb, co, none⟩) bs.length cc, .int .u8 at_, .int .i64 at_, .pointer (some ⟨qb, 0, none⟩), .slice (some ⟨cb, co, none⟩) bs.length cc, .int .i64 bs.length, .int .i64 im, .pointer (some ⟨cb, co + im * 7, none⟩), .pointer (some ⟨cb, co + im * 7, none⟩), .int .u8 r, .int .u8 rm, .int .i64 rm, .agg #[.int .u8 0, .int .u8 0, .int .i64 rm, .int .i64 0, .int .i64 0, .int .i64 0, .int .i64 0], .slice (some ⟨W7s, 0, none⟩) 1 1, .pointer (some ⟨cb, co + im * 7, none⟩), .pointer (some ⟨cb, co + im * 7, none⟩), .pointer (some ⟨cb, co + im * 7 + 2, none⟩), .slice ia Bl ic, .slice va2 (1 + Bl) vc2, .pointer (some ⟨cb, co + im * 7, none⟩), .pointer (some ⟨cb, co + im * 7 + 2, none⟩), .agg #[.slice pa bs.length pc], .slice (some ⟨sb1, 0, none⟩) bs.length bs.length, .agg #[.slice (some ⟨cb, co, none⟩) bs.length cc], .slice (some ⟨sb2, 0, none⟩) bs.length bs.length, .slice (some ⟨sb1, 0, none⟩) bs.length bs.length, .int .i64 bs.length, v51, u52, u53, u54, u55, u56, u57, u58, u59, u60, u61, u62, u63, u64, u65, u66, u67, undef, undef, undef, undef, undef, undef, undef, undef], defers := ds.map mkD } ∧ v51 = .int .i64 i ∧ i ≤ bs.length ∧ Hid (Tch [] w2 W ∧ ds.Nodup ∧ ∀ D ∈ ds, W.heap[D]? = some (.deferred (some [])) ∧ w2.heap.size ≤ D)) (fun a _ => bs.length - (intOf (a.tmps[51]?.getD undef)).toNat) ?h0 ?round
  case h0 => exact ⟨0, [], _, _, _, _, _, _, _, _, _, _, _, _, _, _, _, _, _, _, _, rfl, rfl, Nat.zero_le _, Tch.refl _ _, List.nodup_nil, by simp⟩
  case round =>
    rintro _ W ⟨i, ds, _, u12, u13, u52, u53, u54, u55, u56, u57, u58, u59, u60, u61, u62, u63, u64, u65, u66, u67, rfl, rfl, hi, HI⟩
    by_cases hil : i < bs.length
    · have qa := QA.out.tch HI.out.1
      have cq := qa.cell hil
      have lq := qa.lt
      obtain ⟨sa, sc, hsv⟩ := seg_slice (qa.r i)
      rw [vals_lenI] at hsv
      have sgq := qa.r i
      rw [hsv] at cq sgq
      have t1 : Tch [] W (W.alloc (.cells #[.int .i64 i] 3)) := (Tch.refl [] W).alloc _
      have p1 := heap_alloc_new W (.cells #[.int .i64 i] 3)
      have T1 := hid (HI.out.1.trans t1)
      have SG1 := hid (sgq.kept t1 (by simp))
      have HND := hid HI.out.2.1
      have HD1 : Hid (∀ D ∈ ds, (W.alloc (.cells #[.int .i64 i] 3)).heap[D]? = some (.deferred (some [])) ∧ w2.heap.size ≤ D) := fun D hD => ⟨t1.obj (HI.out.2.2 D hD).1 (by simp), (HI.out.2.2 D hD).2⟩
      clear qa hsv sgq HI
      go_upto_region 13 with fail
      have cq1 := t1.val0 cq
      have lq1 : sb1 < (W.alloc (.cells #[.int .i64 i] 3)).heap.size := cell_lt cq1
      have IS1 := hid p1
      have ci1 := cell_of_row _ _ 0 _ _ _ p1
      simp only [List.getElem?_toArray, List.getElem?_cons_zero] at ci1
      have li1 := lt_of_obj p1
      clear cq lq t1 p1
      generalize W.alloc (.cells #[.int .i64 i] 3) = W1 at *
      generalize W.heap.size = ib at *
      go_wp2_with (go_at_call 22; refine (all_I _ _ rfl).mono ?_; rintro e w9 ⟨rfl, rfl⟩)
      have t2 : Tch [] W1 (W1.alloc (.cells #[.slice sa (Q1 i).length sc] 41)) := (Tch.refl [] W1).alloc _
      have p2 := heap_alloc_new W1 (.cells #[.slice sa (Q1 i).length sc] 41)
      generalize W1.alloc (.cells #[.slice sa (Q1 i).length sc] 41) = W3 at *
      have T3 := hid (T1.out.trans t2)
      have SG3 := hid (SG1.out.kept t2 (by simp))
      have OI3 := hid (t2.obj IS1.out (by simp))
      have OB3 := hid p2
      have OY3 := hid (T3.out.obj OY.out (by simp))
      have QB3 := hid (QB.out.tch T3.out)
      have HD3 : Hid (∀ D ∈ ds, (W3.heap[D]? = some (.deferred (some [])) ∧ w2.heap.size ≤ D) ∧ D < W3.heap.size) := fun D hD => ⟨⟨t2.obj (HD1.out D hD).1 (by simp), (HD1.out D hD).2⟩, lt_of_obj (t2.obj (HD1.out D hD).1 (by simp))⟩
      have SZ3 : Hid (w2.heap.size ≤ W3.heap.size) := T3.out.size
      clear cq1 lq1 ci1 li1 t2 p2 T1 SG1 IS1 HD1
      generalize hBs : W1.heap.size = Bs at *
      clear hBs
      have HLI := hid (HLA.out i)
      refine (wpIn_wide (n := 5)).1 ?_
      refine wpIn_stepsB (fun (x : Int) t => (t.setIfInBounds 59 (.int .i64 x)).setIfInBounds 13 (.int .i64 x)) rfl (by decide) (gf := 51) (lb := #[.pointer (some ⟨Bs, 0, none⟩)]) rfl trivial (enters_of Tryz.func51 (by kernel_rfl) rfl) (fun _ => rfl) (fun c W => False) (Q1 i).length
        (sall_B 4 (by decide) Bs W3.heap.size (.slice sa (Q1 i).length sc) (Q1 i) (by have := HLA.out i; omega) (fun k W => Tch [] W3 W)
          (fun k W h => SG3.out.kept h (by simp)) (fun W h => by have := cell_of_row _ _ 0 _ _ _ (h.obj OB3.out (by simp)); simpa using this))
        ?hI2 ?hIy2 ?hId2 ?hIx2 ?h02 ?assign2 ?body2 ?done2 ?stop2
      case hI2 => exact fun m X Y row ⟨k, e, c⟩ g hr => ⟨k, e, tch_bk c g hr (Nat.le_refl _)⟩
      case hIy2 => exact fun m x X Y row ⟨k, e, e2, c⟩ g hr => ⟨k, e, e2, tch_bk c g hr (Nat.le_refl _)⟩
      case hId2 => exact fun _ X Y row c g hr => tch_bk c g hr (Nat.le_refl _)
      case hIx2 => exact fun c X Y row h g hr => h.elim
      case h02 => exact ⟨0, by omega, Tch.refl _ _⟩
      case stop2 =>
        rintro D c X _ h _
        exact h.elim
      case assign2 =>
        intro lp x X K hK
        gi_wp2
        try simp only [List.setIfInBounds_toArray, List.set_cons_succ, List.set_cons_zero] at hK
        exact hK
      case body2 =>
        rintro lp m x X hlp ⟨rec, hrec⟩ ⟨k, hk, hx, U⟩
        have hm1 := List.mem_of_getElem? hx
        have hkl : k < (Q1 i).length := (List.getElem?_eq_some_iff.1 hx).1
        have wx := HWA.out i hil x hm1
        have hm2 := HMR.out x wx i hil hm1
        have oi := U.obj OI3.out (by simp)
        have oy := U.obj OY3.out (by simp)
        have qb3 := QB3.out.tch U
        have ci := cell_of_row _ _ 0 _ _ _ oi
        have cy := cell_of_row _ _ 0 _ _ _ oy
        simp only [List.getElem?_toArray, List.getElem?_cons_zero] at ci cy
        have li := lt_of_obj oi
        have ly := lt_of_obj oy
        have cq := qb3.cell hil
        have lq := qb3.lt
        obtain ⟨sa2, sc2, hsv2⟩ := seg_slice (qb3.r i)
        rw [hsv2] at cq
        have HC := hid (hasOf_I (vQ2 i) (Q2 i) x X (qb3.r i) (qb3.up i) (by have := HLB.out i; omega))
        rw [hsv2, (has_iffI _ _).2 hm2] at HC
        have HU := hid U
        have HKM := hid hk
        clear oi oy qb3 hsv2 hx U hm1 hm2 wx hk
        gi_wp2_with (refine ⟨trivial, (((callsIn_wide (n := 2)).2 HC.out).inRound lp).mono ?_⟩; rintro e Z1 ⟨rfl, rfl⟩)
        have ta : Tch [] X (X.alloc (.cells #[.slice sa2 (valsI (Q2 i)).length sc2] 41)) := (Tch.refl [] X).alloc _
        exact ⟨ta.kb _ (by simp), m - 1, by have := HKM.out; omega, k + 1, by have := HKM.out; omega, HU.out.trans ta⟩
      case done2 =>
        rintro D X hD U hKd
        have NX : Hid (Tch [] w2 X ∧ (D :: ds).Nodup ∧ ∀ E ∈ D :: ds, X.heap[E]? = some (.deferred (some [])) ∧ w2.heap.size ≤ E) := by
          refine ⟨T3.out.trans U, List.nodup_cons.2 ⟨fun hm => by have := (HD3.out D hm).2; omega, HND.out⟩, fun E hE => ?_⟩
          rcases List.mem_cons.1 hE with rfl | hE
          · exact ⟨hKd, by have := SZ3.out; omega⟩
          · exact ⟨U.obj (HD3.out E hE).1.1 (by simp), (HD3.out E hE).1.2⟩
        clear U hKd hD
        go_wp2_with fail
        exact ⟨⟨i + 1, D :: ds, _, _, _, _, _, _, _, _, _, _, _, _, _, _, _, _, _, _, _, rfl, by go_num, by omega, NX.out⟩, by simp [intOf]; omega⟩
    · obtain rfl : i = bs.length := by omega
      have op := HI.out.1.obj OP2.out (by simp)
      have oq := HI.out.1.obj OQ2.out (by simp)
      have ro := HI.out.1.obj R2o.out (by simp)
      have cp := cell_of_row _ _ 0 _ _ _ op
      have cq := cell_of_row _ _ 0 _ _ _ oq
      have cr := cell_of_row _ _ 0 _ _ _ ro
      simp only [List.getElem?_toArray, List.getElem?_cons_zero] at cp cq cr
      have lp := lt_of_obj op
      have lq := lt_of_obj oq
      have lr := lt_of_obj ro
      have TZ := hid HI.out.1
      have HN := hid HI.out.2.1
      have HDW := hid HI.out.2.2
      have TY : Hid (Tch [] W W) := Tch.refl [] W
      have RO := hid ro
      have fz : ∀ k, W.frozen? ⟨w.heap.size + 1, k, none⟩ = false := fun k => frozen_of_row _ _ _ _ _ ro
      clear op oq ro HI
      cases bp1
      · have hb := HBB.out rfl
        subst hb
        go_wp2_with first
          | (go_at_call_of 19 (Value.agg #[Value.slice pa bs.length pc]); refine (HCP.out _ TZ.out).mono ?_; rintro e y1 ⟨rfl, t1⟩; replace TZ := hid (TZ.out.trans t1); replace TY := hid (TY.out.trans t1); replace cq := t1.val0 cq; replace cr := t1.val0 cr; replace RO := hid (t1.obj RO.out (by simp)); replace lq := Nat.lt_of_lt_of_le lq t1.size; replace lr := Nat.lt_of_lt_of_le lr t1.size; clear t1)
          | (go_at_call 19; refine (HCQ.out _ TZ.out).mono ?_; rintro e y2 ⟨rfl, t2⟩; replace TZ := hid (TZ.out.trans t2); replace TY := hid (TY.out.trans t2); replace cr := t2.val0 cr; replace RO := hid (t2.obj RO.out (by simp)); replace lr := Nat.lt_of_lt_of_le lr t2.size; have fz2 : (∀ k, y2.frozen? ⟨w.heap.size + 1, k, none⟩ = false) := (fun k => frozen_of_row _ _ _ _ _ RO.out); clear t2)
        have oS : (y2.setCell ⟨w.heap.size + 1, 0, none⟩ (.bool true)).heap[w.heap.size + 1]? = some (.cells #[.bool true] 4 (0, 0)) := heap_setCell_same _ _ _ _ _ _ RO.out
        have tS : Tch [w.heap.size + 1] y2 (y2.setCell ⟨w.heap.size + 1, 0, none⟩ (.bool true)) := (Tch.refl _ y2).setCell (p := ⟨w.heap.size + 1, 0, none⟩) (.inl (by simp)) _
        have lz2 := LZ2.out
        refine leaves_many (by simp) ds _ HN.out (fun D hD => tS.obj (TY.out.obj (HDW.out D hD).1 (by simp)) (by have := (HDW.out D hD).2; simp; omega)) (fun w' t => ?_)
        have oF := t.obj oS (fun hm => by have := (HDW.out _ hm).2; omega)
        have e0 := cell_of_row _ _ 0 _ _ _ oF
        simp only [List.getElem?_toArray, List.getElem?_cons_zero] at e0
        exact ⟨_, (show (results _ _).run _ _ = .ok (.bool true) _ by simp [results, Tryz.results6, go_sem, e0]), rfl, ((TW2.out.trans TZ.out).trans2 tS (fun k hk => .inr (by simp at hk; omega))).trans2 t (fun k hk => .inr (by have := (HDW.out k hk).2; omega))⟩
      · go_wp2_with (go_at_call 19; refine (HCP.out _ TZ.out).mono ?_; rintro e y2 ⟨rfl, t2⟩; replace TZ := hid (TZ.out.trans t2); replace TY := hid (TY.out.trans t2); replace cr := t2.val0 cr; replace RO := hid (t2.obj RO.out (by simp)); replace lr := Nat.lt_of_lt_of_le lr t2.size; have fz2 : (∀ k, y2.frozen? ⟨w.heap.size + 1, k, none⟩ = false) := (fun k => frozen_of_row _ _ _ _ _ RO.out); clear t2)
        have oS : (y2.setCell ⟨w.heap.size + 1, 0, none⟩ (.bool true)).heap[w.heap.size + 1]? = some (.cells #[.bool true] 4 (0, 0)) := heap_setCell_same _ _ _ _ _ _ RO.out
        have tS : Tch [w.heap.size + 1] y2 (y2.setCell ⟨w.heap.size + 1, 0, none⟩ (.bool true)) := (Tch.refl _ y2).setCell (p := ⟨w.heap.size + 1, 0, none⟩) (.inl (by simp)) _
        have lz2 := LZ2.out
        refine leaves_many (by simp) ds _ HN.out (fun D hD => tS.obj (TY.out.obj (HDW.out D hD).1 (by simp)) (by have := (HDW.out D hD).2; simp; omega)) (fun w' t => ?_)
        have oF := t.obj oS (fun hm => by have := (HDW.out _ hm).2; omega)
        have e0 := cell_of_row _ _ 0 _ _ _ oF
        simp only [List.getElem?_toArray, List.getElem?_cons_zero] at e0
        exact ⟨_, (show (results _ _).run _ _ = .ok (.bool true) _ by simp [results, Tryz.results6, go_sem, e0]), rfl, ((TW2.out.trans TZ.out).trans2 tS (fun k hk => .inr (by simp at hk; omega))).trans2 t (fun k hk => .inr (by have := (HDW.out k hk).2; omega))⟩
end Go.Proofs.YtcpbijlcflaomaaGreatDoor

