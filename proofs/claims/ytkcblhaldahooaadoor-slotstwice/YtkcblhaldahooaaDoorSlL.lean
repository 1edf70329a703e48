
/- slots.Lift. -/
import Derived.Test.YtkcblhaldahooaaDoorYe
import Derived.Test.YtkcblhaldahooaaDoorSlU
import Derived.Test.YtkcblhaldahooaaDoorRegT
import Derived.Test.YtkcblhaldahooaaDoorJx
import Derived.Test.YtkcblhaldahooaaDoorLc
import Derived.Test.YtkcblhaldahooaaDoorSlN
set_option linter.unusedSimpArgs false
set_option linter.unusedVariables false
namespace Go.Proofs.YtkcblhaldahooaaDoor
open Go.RowKit Go.Sort Go.Maps

def liftM (n : Int) (B : BlkM) : BlkM := { B with ins := B.ins.map (liftI n) }
/-- A program whose slots are registers: numbers ahead in the first block. -/
def liftP (n : Int) (zs : List InsM) : List BlkM → List BlkM
  | [] => []
  | B :: r => { liftM n B with ins := zs ++ (liftM n B).ins } :: r.map (liftM n)
/-- The blocks so far. -/
def lkP (n : Int) (cl : List BlkM) (k : Nat) : List BlkM := (cl.take k).map (liftM n) ++ cl.drop k
def ljP (n : Int) (cl : List BlkM) (k : Nat) (C : BlkM) (j : Nat) : List BlkM := (lkP n cl k).set k { C with ins := (C.ins.take j).map (liftI n) ++ C.ins.drop j }
theorem lkP_at {n : Int} {cl : List BlkM} {k : Nat} {C : BlkM} (h : cl[k]? = some C) : (lkP n cl k)[k]? = some C := by
  have hk := (List.getElem?_eq_some_iff.1 h).1
  unfold lkP
  rw [List.getElem?_append_right (by simp; omega)]
  simp only [List.length_map, List.length_take, List.getElem?_drop]
  rw [show k + (k - min k cl.length) = k by omega]; exact h
theorem lkP_len (n : Int) (cl : List BlkM) (k : Nat) : (lkP n cl k).length = cl.length := by
  unfold lkP; simp; omega
theorem set_self {α : Type} : ∀ {l : List α} {i : Nat} {x : α}, l[i]? = some x → l.set i x = l
  | [], i, x, h => by simp at h
  | y :: r, 0, x, h => by simp at h; subst h; rfl
  | y :: r, i + 1, x, h => by rw [List.set_cons_succ, set_self (by simpa using h)]
theorem ljP_0 {n : Int} {cl : List BlkM} {k : Nat} {C : BlkM} (h : cl[k]? = some C) : ljP n cl k C 0 = lkP n cl k := by
  unfold ljP
  exact set_self (by simpa using lkP_at (n := n) h)
theorem ljP_end {n : Int} {cl : List BlkM} {k : Nat} {C : BlkM} (h : cl[k]? = some C) : ljP n cl k C C.ins.length = lkP n cl (k + 1) := by
  obtain ⟨hk, e⟩ := List.getElem?_eq_some_iff.1 h
  unfold ljP lkP
  rw [List.take_length, List.drop_length, List.append_nil, List.take_succ_eq_append_getElem hk, List.drop_eq_getElem_cons hk, e, List.map_append, List.append_assoc]
  rw [List.set_append_right _ _ (by simp; omega)]
  simp only [List.length_map, List.length_take]
  rw [show k - min k cl.length = 0 by omega]
  rfl
theorem ljP_at {n : Int} {cl : List BlkM} {k j : Nat} {C : BlkM} (h : cl[k]? = some C) : (ljP n cl k C j)[k]? = some { C with ins := (C.ins.take j).map (liftI n) ++ C.ins.drop j } := by
  have hk := (List.getElem?_eq_some_iff.1 (lkP_at (n := n) h)).1
  unfold ljP
  rw [List.getElem?_set, if_pos rfl, if_pos hk]
theorem ljP_next {n : Int} {cl : List BlkM} {k j : Nat} {C : BlkM} {x : InsM} (hx : C.ins[j]? = some x) : (ljP n cl k C j).set k { C with ins := ((C.ins.take j).map (liftI n) ++ C.ins.drop j).set j (liftI n x) } = ljP n cl k C (j + 1) := by
  obtain ⟨hj, e⟩ := List.getElem?_eq_some_iff.1 hx
  unfold ljP
  rw [List.set_set]
  congr 2
  rw [List.set_append_right _ _ (by simp; omega), List.take_succ_eq_append_getElem hj, List.map_append, List.append_assoc, List.drop_eq_getElem_cons hj, e]
  simp only [List.length_map, List.length_take]
  rw [show j - min j C.ins.length = 0 by omega]
  rfl
/-- The first block gets instructions in a block of their own. -/
theorem OwnP.first {lo : Nat} {w : World} {v iv : Value} {C : BlkM} {r : List BlkM} {ins : List InsM} {b o n c : Nat} (h : OwnP lo w v (C :: r)) (hv : v = .slice (some ⟨b, o, none⟩) n c) (s : Sl w 36 7 iv ins.length (insC ins))
    (hf : ∀ k ∈ blks iv, lo ≤ k ∧ ∀ u ∈ (C :: r).flatMap lsts, ¬ k ∈ blks u) : OwnP lo (w.setCell ⟨b, o + 2, none⟩ iv) v ({ C with iv := iv, ins := ins } :: r) := by
  have t : Tch [b] w (w.setCell ⟨b, o + 2, none⟩ iv) := (Tch.refl [b] w).setCell (p := ⟨b, o + 2, none⟩) (.inl (by simp)) _
  have hs := h.s
  rw [hv] at hs
  obtain ⟨cur, ho⟩ := sl_obj hs
  have hn : n = (C :: r).length := by obtain ⟨_, _, e⟩ := hs.shape; cases e; rfl
  have hap := h.l.a
  unfold Apt at hap
  rw [List.flatMap_cons] at hap
  obtain ⟨a1, a2, a3⟩ := List.pairwise_append.1 hap
  unfold lsts at a1 a3
  obtain ⟨a4, a5⟩ := List.pairwise_cons.1 a1
  obtain ⟨a6, a7⟩ := List.pairwise_cons.1 a5
  have hC := h.l.q C (by simp)
  have hls : ∀ u ∈ C.phis.flatMap pfa, u ∈ (C :: r).flatMap lsts := fun u hu => by
    rw [List.flatMap_cons]
    exact List.mem_append.2 (.inl (by unfold lsts; simp only [List.mem_cons]; exact .inr (.inr hu)))
  have hrs : ∀ u ∈ r.flatMap lsts, u ∈ (C :: r).flatMap lsts := fun u hu => by
    rw [List.flatMap_cons]; exact List.mem_append.2 (.inr hu)
  refine ⟨?_, h.v, ⟨fun B hB => ?_, ?_, ?_⟩⟩
  · rw [hv]
    have h2 := sl_setM (j := 2) (by rw [← hn] at hs; exact hs) (by rw [blkC_len]; simp; omega) iv
    have e2 : (blkC (C :: r)).set 2 iv = blkC ({ C with iv := iv, ins := ins } :: r) := by simp [blkC, BlkM.cells]
    rw [e2] at h2
    rw [hn] at h2 ⊢
    exact h2
  · rcases List.mem_cons.1 hB with rfl | hB
    · have hk := hC.blk ho t
      exact ⟨hk.p, hk.q, s.kept t (fun k hk e => by simp at e; exact sl_ne s ho (by decide) k hk e)⟩
    · exact (h.l.q B (by simp [hB])).blk ho t
  · intro u hu k hk
    rw [List.flatMap_cons] at hu
    have hsz := t.size
    rcases List.mem_append.1 hu with hu | hu
    · unfold lsts at hu
      simp only [List.mem_cons] at hu
      rcases hu with rfl | rfl | hu
      · have := h.l.b C.pv (by rw [List.flatMap_cons]; exact List.mem_append.2 (.inl (by simp [lsts]))) k hk
        exact ⟨this.1, by omega⟩
      · exact ⟨(hf k hk).1, by have := s.lt k hk; omega⟩
      · have := h.l.b u (hls u hu) k hk
        exact ⟨this.1, by omega⟩
    · have := h.l.b u (hrs u hu) k hk
      exact ⟨this.1, by omega⟩
  · show Apt _
    unfold Apt
    rw [List.flatMap_cons]
    refine List.pairwise_append.2 ⟨?_, a2, fun a ha c hc k hk => ?_⟩
    · unfold lsts
      refine List.pairwise_cons.2 ⟨fun a ha k hk hk2 => ?_, List.pairwise_cons.2 ⟨fun a ha k hk => ?_, a7⟩⟩
      · rcases List.mem_cons.1 ha with rfl | ha
        · exact (hf k hk2).2 C.pv (by rw [List.flatMap_cons]; exact List.mem_append.2 (.inl (by simp [lsts]))) hk
        · exact a4 a (List.mem_cons_of_mem _ ha) k hk hk2
      · exact (hf k hk).2 a (hls a ha)
    · unfold lsts at ha
      simp only [List.mem_cons] at ha
      rcases ha with rfl | rfl | ha
      · exact a3 C.pv (by simp) c hc k hk
      · exact (hf k hk).2 c (hrs c hc)
      · exact a3 a (by simp only [List.mem_cons]; exact .inr (.inr ha)) c hc k hk
theorem liftM_pd {n : Int} {C F : BlkM} (h : C.pd = F.pd) : (liftM n C).pd = (liftM n F).pd := by
  simp only [BlkM.pd, Prod.mk.injEq] at h
  obtain ⟨h1, h2, h3, h4, h5, h6, h7⟩ := h
  simp [BlkM.pd, liftM, h1, h2, h3, h4, h5, h6, h7]
theorem liftP_pd {n : Int} {zs : List InsM} {iv : Value} {C : BlkM} {r fb : List BlkM} (h : (C :: r).map BlkM.pd = fb.map BlkM.pd) :
    ({ liftM n C with iv := iv, ins := zs ++ C.ins.map (liftI n) } :: r.map (liftM n)).map BlkM.pd = (liftP n zs fb).map BlkM.pd := by
  cases fb with
  | nil => simp at h
  | cons F fr =>
    rw [List.map_cons, List.map_cons] at h
    injection h with h1 h2
    have h4 : ∀ (a b : List BlkM), a.map BlkM.pd = b.map BlkM.pd → (a.map (liftM n)).map BlkM.pd = (b.map (liftM n)).map BlkM.pd := fun a => by
      induction a with
      | nil => intro b hb; cases b with | nil => rfl | cons y t => simp at hb
      | cons x t ih =>
        intro b hb
        cases b with
        | nil => simp at hb
        | cons y u =>
          rw [List.map_cons, List.map_cons] at hb
          injection hb with e1 e2
          rw [List.map_cons, List.map_cons, List.map_cons, List.map_cons, liftM_pd e1, ih u e2]
    unfold liftP
    rw [List.map_cons, List.map_cons, h4 r fr h2]
    have h3 := h1
    simp only [BlkM.pd, Prod.mk.injEq] at h3
    obtain ⟨g1, g2, g3, g4, g5, g6, g7⟩ := h3
    congr 1
    simp [BlkM.pd, liftM, g1, g2, g3, g4, g5, g6, g7]
set_option maxRecDepth 100000 in
set_option maxHeartbeats 16000000 in
/-- **Lift.** -/
theorem slift_any (v : Value) (bs : List BlkM) (w : World) (hk : Kinds w) (h1 : 1 ≤ bs.length) (h2 : bs.length ≤ 190) (hok : ProgOk w v bs) (hw : PrgW bs) (hz : ∀ B ∈ bs, B.ins.length ≤ 100000 ∧ B.phis.length ≤ 1000000 ∧ BlkSm B) (hlb : ∀ B ∈ bs, 0 ≤ B.lab ∧ B.lab ≤ 1000000)
    (hwf : ∀ x ∈ bs, BlkWf x) (hc : countM bs < 4611686018427387904) (h0 : checkE bs = 0) (hkk : ∀ B ∈ bs, ∀ q ∈ B.ins, 0 ≤ q.k) (hsm : ∀ B ∈ bs, ∀ r ∈ regsL B, Sm r) (hrg : 0 ≤ regsT bs ∧ regsT bs ≤ 1000000) (hsl : ∀ B ∈ bs, ∀ x ∈ B.ins, 0 ≤ x.s ∧ x.s < 16) :
    Calls Tryd.prog 8 #[.agg #[v]] w fun e w' => ∃ v' cl fb, e = .returned (.agg #[v']) ∧ OwnP w.heap.size w' v' cl ∧ ((¬ frP bs ∧ fb = bs) ∨ (frP bs ∧ fb = jmpB bs :: bs)) ∧ cl.map BlkM.pd = (liftP (regsT bs) (zerL (regsT bs) 0 (usL (bs.flatMap BlkM.ins))) fb).map BlkM.pd ∧ Tch [] w w' := by
  have hz2 : ∀ B ∈ bs, B.ins.length ≤ 1000000 ∧ B.phis.length ≤ 1000000 ∧ BlkSm B := fun B hB => ⟨by have := (hz B hB).1; omega, (hz B hB).2⟩
  have pO : ∀ W, Tch [] w W → ProgOk W v bs := fun W t => ⟨hok.b.kept t (by simp), fun y hy => (hok.q y hy).tchT t⟩
  have kO2 : ∀ W, Tch [] w W → Kinds W := fun W t k j hk1 hj => by
    have hcc := hk k j hk1 hj
    exact t.valS hcc (by simp)
  have HC := hid (fun W (t : Tch [] w W) => by
    have h := check_any v bs W (kO2 W t) (pO W t) hwf hc
    rw [h0] at h
    exact h)
  have HF := hid (fun W (t : Tch [] w W) => cfront_any v bs W h1 h2 (pO W t) hw hz2 hlb)
  have HR := hid (fun W (t : Tch [] w W) => regs_any v bs W (kO2 W t) (pO W t) hkk hsm)
  have HUS := hid (fun W (t : Tch [] w W) => sused_any v bs h1 (by omega) W (pO W t) hz2)
  have hus := usL_len (bs.flatMap BlkM.ins)
  obtain ⟨n, hn⟩ : ∃ n, regsT bs = n := ⟨_, rfl⟩
  rw [hn] at HR hrg ⊢
  have HZR := hid (fun W => szeros_any (usL (bs.flatMap BlkM.ins)) hus n hrg W)
  have HSL := hid hsl
  have HIL := hid (fun B (hB : B ∈ bs) => (hz B hB).1)
  obtain ⟨pa, pc, hv⟩ := hok.b.shape
  subst hv
  have hmo : Tryd.prog.follows .mixedOrders = true := by kernel_rfl
  clear hk hok hw hz hlb hwf hc h0 hkk hsm hsl hz2 pO kO2 hn
  have t0 : Tch [] w ((w.alloc (.cells #[.slice pa bs.length pc] 28)).alloc (.cells #[.slice none 0 0] 28)) := ((Tch.refl [] w).alloc _).alloc _
  have op := ((Tch.refl [] _).alloc (.cells #[.slice none 0 0] 28)).obj (heap_alloc_new w (.cells #[.slice pa bs.length pc] 28)) (by simp)
  have orr := heap_alloc_new (w.alloc (.cells #[.slice pa bs.length pc] 28)) (.cells #[.slice none 0 0] 28)
  rw [show (w.alloc (.cells #[.slice pa bs.length pc] 28)).heap.size = w.heap.size + 1 by simp] at orr
  go_enter Tryd.func8, Tryd.ntmps8
  go_upto_region 1 with fail
  have T01 := hid t0
  have OR1 := hid orr
  have KP : Hid (∀ W, Tch [] ((w.alloc (.cells #[.slice pa bs.length pc] 28)).alloc (.cells #[.slice none 0 0] 28)) W → W.cell? ⟨w.heap.size, 0, none⟩ = some (.slice pa bs.length pc) ∧ w.heap.size < W.heap.size) := fun W t => by
    have h := t.obj op (by simp)
    have c := cell_of_row _ _ 0 _ _ _ h
    exact ⟨by simpa using c, lt_of_obj h⟩
  clear t0 op orr
  generalize (w.alloc (.cells #[.slice pa bs.length pc] 28)).alloc (.cells #[.slice none 0 0] 28) = w1 at *
  have LW1 : Hid (w.heap.size + 1 < w1.heap.size) := lt_of_obj OR1.out
  obtain ⟨p1, l1⟩ := KP.out _ (Tch.refl _ _)
  go_upto_region 2 with (go_at_call 17; refine (HC.out _ T01.out).mono ?_; rintro e w2 ⟨rfl, g2⟩; have T12 := hid g2.tch; obtain ⟨p2, l2⟩ := KP.out _ g2.tch; clear g2)
  clear p1 l1 HC
  go_upto_region 4 with (go_at_call 19; refine (HF.out _ (T01.out.trans T12.out)).mono ?_; rintro e w3 ⟨v3, cl, rfl, own, hcl, t23⟩; obtain ⟨ca3, cc3, hv3⟩ := own.s.shape; subst hv3; have OW3 := hid own; have HCL := hid hcl; have T13 := hid (T12.out.trans t23); have T23 := hid t23; have LW2 : Hid (w1.heap.size ≤ w2.heap.size) := T12.out.size; clear own hcl t23)
  obtain ⟨fb, hfb, hpd⟩ : ∃ fb, ((¬ frP bs ∧ fb = bs) ∨ (frP bs ∧ fb = jmpB bs :: bs)) ∧ cl.map BlkM.pd = fb.map BlkM.pd := by
    rcases HCL.out with ⟨h, e⟩ | ⟨h, e⟩
    · exact ⟨bs, .inl ⟨h, rfl⟩, e⟩
    · exact ⟨jmpB bs :: bs, .inr ⟨h, rfl⟩, e⟩
  have HFB := hid hfb
  have HPD := hid hpd
  have hfl : 1 ≤ fb.length ∧ fb.length ≤ 200 := by
    rcases hfb with ⟨_, rfl⟩ | ⟨_, rfl⟩
    · exact ⟨h1, by omega⟩
    · simp; omega
  have hcl1 : 1 ≤ cl.length ∧ cl.length ≤ 200 := by rw [pd_len hpd]; exact hfl
  have HCI : Hid (∀ C ∈ cl, C.ins.length ≤ 100000 ∧ ∀ x ∈ C.ins, 0 ≤ x.s ∧ x.s < 16) := fun C hC => by
    have h3 : C.pd ∈ fb.map BlkM.pd := by rw [← hpd]; exact List.mem_map.2 ⟨C, hC, rfl⟩
    obtain ⟨B, hB, e⟩ := List.mem_map.1 h3
    have e2 : B.ins = C.ins := congrArg (fun p : Int × List (Int × List Int × List Int) × List InsM × Int × Int × Int × Int => p.2.2.1) e
    rw [← e2]
    rcases hfb with ⟨_, rfl⟩ | ⟨_, rfl⟩
    · exact ⟨HIL.out B hB, HSL.out B hB⟩
    · rcases List.mem_cons.1 hB with rfl | hB
      · simp [jmpB]
      · exact ⟨HIL.out B hB, HSL.out B hB⟩
  clear hfb hpd hfl HCL p2 l2 HF
  have t34 : Tch [] w3 (w3.alloc (.cells #[.slice ca3 cl.length cc3] 28)) := (Tch.refl [] w3).alloc _
  have T14 := hid (T13.out.trans t34)
  have OW4 := hid (OW3.out.tch t34)
  have QO4 := hid (heap_alloc_new w3 (.cells #[.slice ca3 cl.length cc3] 28))
  have HTA : Hid (Tch [] w2 w3 → Tch [] w2 (w3.alloc (.cells #[.slice ca3 cl.length cc3] 28))) := fun t => t.trans t34
  clear OW3 t34
  generalize w3.alloc (.cells #[.slice ca3 cl.length cc3] 28) = w4 at *
  generalize w3.heap.size = qb at *
  obtain ⟨p4, l4⟩ := KP.out _ T14.out
  go_upto_region 5 with (go_at_call 20; refine (HR.out _ (T01.out.trans T14.out)).mono ?_; rintro e w5 ⟨rfl, g5⟩; have T45 := hid g5.tch; clear g5)
  clear p4 l4 HR
  have X0 : Hid (OwnP w2.heap.size w5 (.slice ca3 cl.length cc3) (lkP n cl 0) ∧ w5.heap[qb]? = some (.cells #[.slice ca3 cl.length cc3] 28 (0, 0)) ∧ Tch [] w2 w5) := ⟨by simpa [lkP] using OW4.out.tch T45.out, T45.out.obj QO4.out (by simp), (HTA.out T23.out).trans T45.out⟩
  have q5 := cell_of_row _ _ 0 _ _ _ X0.out.2.1
  simp only [List.getElem?_toArray, List.getElem?_cons_zero] at q5
  have lq5 := lt_of_obj X0.out.2.1
  have HN := hid hrg
  clear OW4 QO4 HTA T45
  go_upto_region 6 with fail
  clear q5 lq5
  go_loopw [22] (fun vi wr => ∃ k : Nat, vi = .int .i64 k ∧ k ≤ cl.length ∧ Hid (OwnP w2.heap.size wr (.slice ca3 cl.length cc3) (lkP n cl k) ∧ wr.heap[qb]? = some (.cells #[.slice ca3 cl.length cc3] 28 (0, 0)) ∧ Tch [] w2 wr)) (fun vi _ => cl.length - (intOf vi).toNat)
  case atStart => exact ⟨0, rfl, Nat.zero_le _, X0.out⟩
  case round =>
    clear X0
    obtain ⟨k, rfl, hk, HI⟩ := hrel
    by_cases hlt : k < cl.length
    · obtain ⟨C, hC⟩ : ∃ x, cl[k]? = some x := ⟨cl[k], List.getElem?_eq_getElem hlt⟩
      obtain ⟨hcil, hcis⟩ := HCI.out C (List.mem_of_getElem? hC)
      have hS := HI.out.1.s
      rw [lkP_len] at hS
      obtain ⟨b1, o1, d1, hv⟩ := hS.ptr (Nat.zero_lt_of_lt hlt)
      cases hv
      rw [← lkP_len n cl k] at hS
      have hbk := HI.out.1.l.q C (List.mem_of_getElem? (lkP_at (n := n) hC))
      have HLJ := hid (fun (j : Nat) => ljP_at (n := n) (j := j) hC)
      have HLN := hid (fun (j : Nat) (x : InsM) (hx : C.ins[j]? = some x) => ljP_next (n := n) (cl := cl) (k := k) hx)
      have HLE := hid (ljP_end (n := n) hC)
      have HL0 := hid (ljP_0 (n := n) hC)
      obtain ⟨p0, p1, p2, p3, p4, p5, p6⟩ := blk_at (by rw [lkP_len] at hS ⊢; exact hS) k (lkP_at (n := n) hC)
      have lt1 : b1 < wr.heap.size := cell_lt p0
      obtain ⟨qa, qc, eX⟩ := hbk.p.shape
      obtain ⟨ia, ic, e3⟩ := hbk.i.shape
      clear hC hbk hS
      obtain ⟨xl, xp, xq, xv, xi, xe, xa, xy, xn⟩ := C
      dsimp only at *
      generalize hqn : xq.length = qn at *
      clear hqn
      subst eX e3
      go_upto_region 8 with fail
      have t8 : Tch [] wr (wr.alloc (.cells #[.int .i64 xl, .slice qa qn qc, .slice ia xi.length ic, .int .u8 xe, .int .i64 xa, .int .i64 xy, .int .i64 xn] 43)) := (Tch.refl [] wr).alloc _
      have BO := hid (heap_alloc_new wr (.cells #[.int .i64 xl, .slice qa qn qc, .slice ia xi.length ic, .int .u8 xe, .int .i64 xa, .int .i64 xy, .int .i64 xn] 43))
      have I8 : Hid (OwnP w2.heap.size (wr.alloc (.cells #[.int .i64 xl, .slice qa qn qc, .slice ia xi.length ic, .int .u8 xe, .int .i64 xa, .int .i64 xy, .int .i64 xn] 43)) (.slice (some ⟨b1, o1, none⟩) cl.length cc3) (ljP n cl k ⟨xl, .slice qa qn qc, xq, .slice ia xi.length ic, xi, xe, xa, xy, xn⟩ 0) ∧ (wr.alloc (.cells #[.int .i64 xl, .slice qa qn qc, .slice ia xi.length ic, .int .u8 xe, .int .i64 xa, .int .i64 xy, .int .i64 xn] 43)).heap[qb]? = some (.cells #[.slice (some ⟨b1, o1, none⟩) cl.length cc3] 28 (0, 0)) ∧ (wr.alloc (.cells #[.int .i64 xl, .slice qa qn qc, .slice ia xi.length ic, .int .u8 xe, .int .i64 xa, .int .i64 xy, .int .i64 xn] 43)).heap[wr.heap.size]? = some (.cells #[.int .i64 xl, .slice qa qn qc, .slice ia xi.length ic, .int .u8 xe, .int .i64 xa, .int .i64 xy, .int .i64 xn] 43 (0, 0)) ∧ Tch [] w2 (wr.alloc (.cells #[.int .i64 xl, .slice qa qn qc, .slice ia xi.length ic, .int .u8 xe, .int .i64 xa, .int .i64 xy, .int .i64 xn] 43))) := ⟨by rw [HL0.out]; exact HI.out.1.tch t8, t8.obj HI.out.2.1 (by simp), BO.out, HI.out.2.2.trans t8⟩
      have LB8 : Hid (w2.heap.size ≤ wr.heap.size) := HI.out.2.2.size
      clear p0 p1 p2 p3 p4 p5 p6 lt1 t8 HI HL0
      generalize wr.alloc (.cells #[.int .i64 xl, .slice qa qn qc, .slice ia xi.length ic, .int .u8 xe, .int .i64 xa, .int .i64 xy, .int .i64 xn] 43) = w8 at *
      generalize wr.heap.size = bb at *
      have c2 := cell_of_row _ _ 2 _ _ _ BO.out
      simp only [List.getElem?_toArray, List.getElem?_cons_zero, List.getElem?_cons_succ] at c2
      have lb := lt_of_obj BO.out
      go_upto_region 9 with fail
      clear c2 lb BO
      go_loopw [29] (fun vi wq => ∃ j : Nat, vi = .int .i64 j ∧ j ≤ xi.length ∧ Hid (OwnP w2.heap.size wq (.slice (some ⟨b1, o1, none⟩) cl.length cc3) (ljP n cl k ⟨xl, .slice qa qn qc, xq, .slice ia xi.length ic, xi, xe, xa, xy, xn⟩ j) ∧ wq.heap[qb]? = some (.cells #[.slice (some ⟨b1, o1, none⟩) cl.length cc3] 28 (0, 0)) ∧ wq.heap[bb]? = some (.cells #[.int .i64 xl, .slice qa qn qc, .slice ia xi.length ic, .int .u8 xe, .int .i64 xa, .int .i64 xy, .int .i64 xn] 43 (0, 0)) ∧ Tch [] w2 wq)) (fun vi _ => xi.length - (intOf vi).toNat)
      case atStart => exact ⟨0, rfl, Nat.zero_le _, I8.out⟩
      case round =>
        clear I8
        obtain ⟨j, rfl, hj, HJ⟩ := hrel
        rename World => wq
        by_cases hlj : j < xi.length
        · obtain ⟨x, hx⟩ : ∃ x, xi[j]? = some x := ⟨xi[j], List.getElem?_eq_getElem hlj⟩
          have hxs := hcis x (List.mem_of_getElem? hx)
          have hnx := HLN.out j x hx
          have hat := HLJ.out j
          have hq := (HJ.out.1.l.q _ (List.mem_of_getElem? hat)).i
          have hil : ((xi.take j).map (liftI n) ++ xi.drop j).length = xi.length := by simp; omega
          dsimp only at hq
          rw [hil] at hq
          obtain ⟨b4, o4, c4, hv⟩ := hq.ptr (Nat.zero_lt_of_lt hlj)
          cases hv
          have hjx : ((xi.take j).map (liftI n) ++ xi.drop j)[j]? = some x := by
            rw [List.getElem?_append_right (by simp; omega)]
            simp only [List.length_map, List.length_take, List.getElem?_drop]
            rw [show j + (j - min j xi.length) = j by omega]; exact hx
          have HCE : Hid (∀ W, Tch [] wq W → InsAt W b4 (o4 + j * 7) x ∧ (∀ z, W.frozen? ⟨b4, z, none⟩ = false) ∧ b4 < W.heap.size) := fun W t => by
            have h := hq.kept t (by simp)
            obtain ⟨cur, ho⟩ := sl_obj h
            rw [← hil] at h
            exact ⟨ins_at h j hjx, fun z => frozen_of_row _ _ _ _ _ ho, lt_of_obj ho⟩
          have HQI := hid hq
          have HAT := hid hat
          have HNX := hid hnx
          obtain ⟨q0, q1, q2, q3, q4, q5, q6⟩ := (HCE.out wq (Tch.refl _ _)).1
          have lq := (HCE.out wq (Tch.refl _ _)).2.2
          clear hx hjx hq hat hnx
          obtain ⟨yk, yo, yd, ya, yb, yn, ys⟩ := x
          dsimp only at *
          go_upto_region 11 with fail
          have T11 : Hid (Tch [] wq (wq.alloc (.cells #[.int .u8 yk, .int .u8 yo, .int .i64 yd, .int .i64 ya, .int .i64 yb, .int .i64 yn, .int .i64 ys] 36))) := (Tch.refl [] wq).alloc _
          have XO := hid (heap_alloc_new wq (.cells #[.int .u8 yk, .int .u8 yo, .int .i64 yd, .int .i64 ya, .int .i64 yb, .int .i64 yn, .int .i64 ys] 36))
          clear q0 q1 q2 q3 q4 q5 q6 lq
          generalize wq.alloc (.cells #[.int .u8 yk, .int .u8 yo, .int .i64 yd, .int .i64 ya, .int .i64 yb, .int .i64 yn, .int .i64 ys] 36) = w11 at *
          generalize wq.heap.size = qx at *
          obtain ⟨z, hzz⟩ : ∃ z, liftI n ⟨yk, yo, yd, ya, yb, yn, ys⟩ = z := ⟨_, rfl⟩
          have HLF := hid (fun W => slifted_any yk yo yd ya yb yn ys n HN.out hxs W)
          rw [hzz] at HLF HNX
          clear hzz
          obtain ⟨zk, zo, zd, za, zb, zn, zs⟩ := z
          have KS : Hid (∀ W, Tch [] w11 W → Tch [] w11 W ∧ W.cell? ⟨bb, 2, none⟩ = some (.slice (some ⟨b4, o4, none⟩) xi.length ic) ∧ W.cell? ⟨qx, 0, none⟩ = some (.int .u8 yk) ∧ W.cell? ⟨qx, 1, none⟩ = some (.int .u8 yo) ∧ W.cell? ⟨qx, 2, none⟩ = some (.int .i64 yd) ∧ W.cell? ⟨qx, 3, none⟩ = some (.int .i64 ya) ∧ W.cell? ⟨qx, 4, none⟩ = some (.int .i64 yb) ∧ W.cell? ⟨qx, 5, none⟩ = some (.int .i64 yn) ∧ W.cell? ⟨qx, 6, none⟩ = some (.int .i64 ys)) := fun W t => by
            have bo := (T11.out.trans t).obj HJ.out.2.2.1 (by simp)
            have xo := t.obj XO.out (by simp)
            have c2 := cell_of_row _ _ 2 _ _ _ bo
            have e0 := cell_of_row _ _ 0 _ _ _ xo
            have e1 := cell_of_row _ _ 1 _ _ _ xo
            have e2 := cell_of_row _ _ 2 _ _ _ xo
            have e3 := cell_of_row _ _ 3 _ _ _ xo
            have e4 := cell_of_row _ _ 4 _ _ _ xo
            have e5 := cell_of_row _ _ 5 _ _ _ xo
            have e6 := cell_of_row _ _ 6 _ _ _ xo
            simp only [List.getElem?_toArray, List.getElem?_cons_zero, List.getElem?_cons_succ] at c2 e0 e1 e2 e3 e4 e5 e6
            exact ⟨t, c2, e0, e1, e2, e3, e4, e5, e6⟩
          have hb0 : (0 : Int) ≤ (j : Int) := by omega
          have hb1 : (j : Int) < (xi.length : Int) := by omega
          refine wp_region_z (fun w' => Tch [] w11 w' ∧ w'.cell? ⟨bb, 2, none⟩ = some (.slice (some ⟨b4, o4, none⟩) xi.length ic) ∧ w'.cell? ⟨qx, 0, none⟩ = some (.int .u8 yk) ∧ w'.cell? ⟨qx, 1, none⟩ = some (.int .u8 yo) ∧ w'.cell? ⟨qx, 2, none⟩ = some (.int .i64 yd) ∧ w'.cell? ⟨qx, 3, none⟩ = some (.int .i64 ya) ∧ w'.cell? ⟨qx, 4, none⟩ = some (.int .i64 yb) ∧ w'.cell? ⟨qx, 5, none⟩ = some (.int .i64 yn) ∧ w'.cell? ⟨qx, 6, none⟩ = some (.int .i64 ys)) 7 hmo (KS.out _ (Tch.refl _ _).drew) (fun hHeld => ?_)
          generalize w11.drew = x0 at *
          refine wpAnyZ_takeT 8 (i := 0) (oi := { dst := some 34, op := Go.Op.fieldAddr 43 (Go.Operand.tmp 6) 2, type := 0, pos := "slots.go:36", after := #[], guard := none }) (v := ?_) rfl (by kernel_rfl) (by kernel_rfl) (by kernel_rfl) (by kernel_rfl) (by kernel_rfl) (fun _ _ _ h => h) (Or.inl ⟨by rfl, ?_⟩) (by assumption) ?_
          rotate_left
          (intro w hSw; (try dsimp only at hSw); go_simp; try (with_reducible rfl))
          try simp only [Act.put, List.setIfInBounds_toArray, List.set_cons_zero, List.set_cons_succ]
          refine wpAnyZ_takeT 8 (i := 1) (oi := { dst := some 35, op := Go.Op.load 37 (Go.Operand.tmp 34), type := 37, pos := "slots.go:36", after := #[{ on := 0, ground := Go.Ground.data }], guard := none }) (v := ?_) rfl (by kernel_rfl) (by kernel_rfl) (by kernel_rfl) (by kernel_rfl) (by kernel_rfl) (fun _ _ _ h => h) (Or.inl ⟨by rfl, ?_⟩) (by assumption) ?_
          rotate_left
          (intro w hSw; (try dsimp only at hSw); go_simp; try (with_reducible rfl))
          try simp only [Act.put, List.setIfInBounds_toArray, List.set_cons_zero, List.set_cons_succ]
          refine wpAnyZ_takeT 8 (i := 2) (oi := { dst := some 36, op := Go.Op.move (Go.Operand.tmp 7), type := 3, pos := "slots.go:36", after := #[], guard := none }) (v := ?_) rfl (by kernel_rfl) (by kernel_rfl) (by kernel_rfl) (by kernel_rfl) (by kernel_rfl) (fun _ _ _ h => h) (Or.inl ⟨by rfl, ?_⟩) (by assumption) ?_
          rotate_left
          (intro w hSw; (try dsimp only at hSw); go_simp; try (with_reducible rfl))
          try simp only [Act.put, List.setIfInBounds_toArray, List.set_cons_zero, List.set_cons_succ]
          refine wpAnyZ_takeT 8 (i := 3) (oi := { dst := some 37, op := Go.Op.load 36 (Go.Operand.tmp 8), type := 36, pos := "slots.go:36", after := #[], guard := none }) (v := ?_) rfl (by kernel_rfl) (by kernel_rfl) (by kernel_rfl) (by kernel_rfl) (by kernel_rfl) (fun _ _ _ h => h) (Or.inl ⟨by rfl, ?_⟩) (by assumption) ?_
          rotate_left
          (intro w hSw; (try dsimp only at hSw); go_simp; try (with_reducible rfl))
          try simp only [Act.put, List.setIfInBounds_toArray, List.set_cons_zero, List.set_cons_succ]
          refine wpAnyZ_takeT 8 (i := 4) (oi := { dst := some 38, op := Go.Op.move (Go.Operand.tmp 4), type := 3, pos := "slots.go:36", after := #[], guard := none }) (v := ?_) rfl (by kernel_rfl) (by kernel_rfl) (by kernel_rfl) (by kernel_rfl) (by kernel_rfl) (fun _ _ _ h => h) (Or.inl ⟨by rfl, ?_⟩) (by assumption) ?_
          rotate_left
          (intro w hSw; (try dsimp only at hSw); go_simp; try (with_reducible rfl))
          try simp only [Act.put, List.setIfInBounds_toArray, List.set_cons_zero, List.set_cons_succ]
          refine wpAnyZ_step (i := 5) (o := { dst := some 39, op := Go.Op.call { callee := Go.Callee.value (Go.Operand.func 21), args := #[Go.Operand.tmp 37, Go.Operand.tmp 38], argTypes := #[36, 3] }, type := 36, pos := "slots.go:36", after := #[{ on := 3, ground := Go.Ground.data }, { on := 4, ground := Go.Ground.data }], guard := none }) (by kernel_rfl) (by kernel_rfl) (fun Kq hK => ?_)
          go_simp
          go_at_call 21
          refine (HLF.out _).mono ?_
          rintro e x5 ⟨rfl, t5⟩
          dsimp only [InsM.vs] at *
          refine hK.out _ _ (KS.out _ (hHeld.1.trans t5)) (fun hH2 => ?_)
          clear hHeld hK Kq
          have hHeld := hH2
          clear hH2
          try simp only [Act.put, List.setIfInBounds_toArray, List.set_cons_zero, List.set_cons_succ]
          have TX5 := hid hHeld.1
          clear t5
          refine wpAnyZ_takeT 8 (i := 6) (oi := { dst := some 40, op := Go.Op.indexAddr 37 (Go.Operand.tmp 35) (Go.Operand.tmp 36), type := 0, pos := "slots.go:36", after := #[{ on := 1, ground := Go.Ground.data }, { on := 2, ground := Go.Ground.data }, { on := 0, ground := Go.Ground.phase }, { on := 1, ground := Go.Ground.phase }, { on := 2, ground := Go.Ground.phase }, { on := 3, ground := Go.Ground.phase }, { on := 4, ground := Go.Ground.phase }, { on := 5, ground := Go.Ground.phase }], guard := none }) (v := ?_) rfl (by kernel_rfl) (by kernel_rfl) (by kernel_rfl) (by kernel_rfl) (by kernel_rfl) (fun _ _ _ h => h) (Or.inl ⟨by rfl, ?_⟩) (by assumption) ?_
          rotate_left
          (intro w hSw; (try dsimp only at hSw); go_simp; try (with_reducible rfl))
          try simp only [Act.put, List.setIfInBounds_toArray, List.set_cons_zero, List.set_cons_succ]
          refine wpAnyZ_last (o := { dst := none, op := Go.Op.store 36 (Go.Operand.tmp 40) (Go.Operand.tmp 39), type := 0, pos := "slots.go:36", after := #[{ on := 6, ground := Go.Ground.data }, { on := 5, ground := Go.Ground.data }, { on := 5, ground := Go.Ground.chain }, { on := 0, ground := Go.Ground.phase }, { on := 1, ground := Go.Ground.phase }, { on := 2, ground := Go.Ground.phase }, { on := 3, ground := Go.Ground.phase }, { on := 4, ground := Go.Ground.phase }, { on := 5, ground := Go.Ground.phase }], guard := none }) (by kernel_rfl) (by kernel_rfl) (fun Kq hK => ?_)
          obtain ⟨⟨f0, f1, f2, f3, f4, f5, f6⟩, ff, lf⟩ := HCE.out _ (T11.out.trans hHeld.1)
          dsimp only at f0 f1 f2 f3 f4 f5 f6
          go_simp
          refine hK.out _ _ ?_
          clear hK Kq
          try simp only [Act.put, List.setIfInBounds_toArray, List.set_cons_zero, List.set_cons_succ]
          clear hHeld f0 f1 f2 f3 f4 f5 f6 ff lf
          refine wpAnyZ_done (by kernel_rfl) (NoPanic.normal ?_) _
          have tz : Tch [b4] x5 (((((((x5.setCell ⟨b4, o4 + j * 7, none⟩ (.int .u8 zk)).setCell ⟨b4, o4 + j * 7 + 1, none⟩ (.int .u8 zo)).setCell ⟨b4, o4 + j * 7 + 2, none⟩ (.int .i64 zd)).setCell ⟨b4, o4 + j * 7 + 3, none⟩ (.int .i64 za)).setCell ⟨b4, o4 + j * 7 + 4, none⟩ (.int .i64 zb)).setCell ⟨b4, o4 + j * 7 + 5, none⟩ (.int .i64 zn)).setCell ⟨b4, o4 + j * 7 + 6, none⟩ (.int .i64 zs)) := ((((((((Tch.refl [b4] x5).setCell (p := ⟨b4, o4 + j * 7, none⟩) (.inl (by simp)) _).setCell (p := ⟨b4, o4 + j * 7 + 1, none⟩) (.inl (by simp)) _).setCell (p := ⟨b4, o4 + j * 7 + 2, none⟩) (.inl (by simp)) _).setCell (p := ⟨b4, o4 + j * 7 + 3, none⟩) (.inl (by simp)) _).setCell (p := ⟨b4, o4 + j * 7 + 4, none⟩) (.inl (by simp)) _).setCell (p := ⟨b4, o4 + j * 7 + 5, none⟩) (.inl (by simp)) _).setCell (p := ⟨b4, o4 + j * 7 + 6, none⟩) (.inl (by simp)) _)
          have hil2 : (((xi.take j).map (liftI n) ++ xi.drop j).set j ⟨zk, zo, zd, za, zb, zn, zs⟩).length = ((xi.take j).map (liftI n) ++ xi.drop j).length := by simp
          have s7 := sl_set7 (HQI.out.kept (T11.out.trans TX5.out) (by simp)) j (by rw [hil]; exact hlj) ⟨zk, zo, zd, za, zb, zn, zs⟩
          have N1 : Hid (OwnP w2.heap.size (((((((x5.setCell ⟨b4, o4 + j * 7, none⟩ (.int .u8 zk)).setCell ⟨b4, o4 + j * 7 + 1, none⟩ (.int .u8 zo)).setCell ⟨b4, o4 + j * 7 + 2, none⟩ (.int .i64 zd)).setCell ⟨b4, o4 + j * 7 + 3, none⟩ (.int .i64 za)).setCell ⟨b4, o4 + j * 7 + 4, none⟩ (.int .i64 zb)).setCell ⟨b4, o4 + j * 7 + 5, none⟩ (.int .i64 zn)).setCell ⟨b4, o4 + j * 7 + 6, none⟩ (.int .i64 zs)) (.slice (some ⟨b1, o1, none⟩) cl.length cc3) (ljP n cl k ⟨xl, .slice qa qn qc, xq, .slice (some ⟨b4, o4, none⟩) xi.length ic, xi, xe, xa, xy, xn⟩ (j + 1))) := by
            have h := (HJ.out.1.tch (T11.out.trans TX5.out)).turn HAT.out rfl hil2 (by rw [hil2, hil]; exact s7) tz
            rw [HNX.out] at h
            exact h
          obtain ⟨cur4, ho4⟩ := sl_obj HQI.out
          have hnq : ¬ qb = b4 := obj_ne HJ.out.2.1 ho4 (by decide)
          have hnb : ¬ bb = b4 := obj_ne HJ.out.2.2.1 ho4 (by decide)
          have hb4 : w2.heap.size ≤ b4 := (HJ.out.1.l.b (.slice (some ⟨b4, o4, none⟩) xi.length ic) (List.mem_flatMap.2 ⟨_, List.mem_of_getElem? HAT.out, by simp [lsts]⟩) b4 (by simp [blks])).1
          have N2 : Hid ((((((((x5.setCell ⟨b4, o4 + j * 7, none⟩ (.int .u8 zk)).setCell ⟨b4, o4 + j * 7 + 1, none⟩ (.int .u8 zo)).setCell ⟨b4, o4 + j * 7 + 2, none⟩ (.int .i64 zd)).setCell ⟨b4, o4 + j * 7 + 3, none⟩ (.int .i64 za)).setCell ⟨b4, o4 + j * 7 + 4, none⟩ (.int .i64 zb)).setCell ⟨b4, o4 + j * 7 + 5, none⟩ (.int .i64 zn)).setCell ⟨b4, o4 + j * 7 + 6, none⟩ (.int .i64 zs)).heap[qb]? = some (.cells #[.slice (some ⟨b1, o1, none⟩) cl.length cc3] 28 (0, 0)) ∧ (((((((x5.setCell ⟨b4, o4 + j * 7, none⟩ (.int .u8 zk)).setCell ⟨b4, o4 + j * 7 + 1, none⟩ (.int .u8 zo)).setCell ⟨b4, o4 + j * 7 + 2, none⟩ (.int .i64 zd)).setCell ⟨b4, o4 + j * 7 + 3, none⟩ (.int .i64 za)).setCell ⟨b4, o4 + j * 7 + 4, none⟩ (.int .i64 zb)).setCell ⟨b4, o4 + j * 7 + 5, none⟩ (.int .i64 zn)).setCell ⟨b4, o4 + j * 7 + 6, none⟩ (.int .i64 zs)).heap[bb]? = some (.cells #[.int .i64 xl, .slice qa qn qc, .slice (some ⟨b4, o4, none⟩) xi.length ic, .int .u8 xe, .int .i64 xa, .int .i64 xy, .int .i64 xn] 43 (0, 0)) ∧ Tch [] w2 (((((((x5.setCell ⟨b4, o4 + j * 7, none⟩ (.int .u8 zk)).setCell ⟨b4, o4 + j * 7 + 1, none⟩ (.int .u8 zo)).setCell ⟨b4, o4 + j * 7 + 2, none⟩ (.int .i64 zd)).setCell ⟨b4, o4 + j * 7 + 3, none⟩ (.int .i64 za)).setCell ⟨b4, o4 + j * 7 + 4, none⟩ (.int .i64 zb)).setCell ⟨b4, o4 + j * 7 + 5, none⟩ (.int .i64 zn)).setCell ⟨b4, o4 + j * 7 + 6, none⟩ (.int .i64 zs))) := ⟨tz.obj ((T11.out.trans TX5.out).obj HJ.out.2.1 (by simp)) (by simpa using hnq), tz.obj ((T11.out.trans TX5.out).obj HJ.out.2.2.1 (by simp)) (by simpa using hnb), (HJ.out.2.2.2.trans (T11.out.trans TX5.out)).trans2 tz (fun k hk => .inr (by simp at hk; omega))⟩
          clear s7 tz hil2 ho4 HQI HAT HNX HJ KS TX5 HLF XO T11 hcis
          generalize (((((((x5.setCell ⟨b4, o4 + j * 7, none⟩ (.int .u8 zk)).setCell ⟨b4, o4 + j * 7 + 1, none⟩ (.int .u8 zo)).setCell ⟨b4, o4 + j * 7 + 2, none⟩ (.int .i64 zd)).setCell ⟨b4, o4 + j * 7 + 3, none⟩ (.int .i64 za)).setCell ⟨b4, o4 + j * 7 + 4, none⟩ (.int .i64 zb)).setCell ⟨b4, o4 + j * 7 + 5, none⟩ (.int .i64 zn)).setCell ⟨b4, o4 + j * 7 + 6, none⟩ (.int .i64 zs)) = wn at *
          go_wp2_with fail
          go_roundw
          case rel => exact ⟨j + 1, by go_num, by omega, N1.out, N2.out⟩
          case measure => simp [intOf]; omega
        · obtain rfl : j = xi.length := by omega
          have N1 : Hid (OwnP w2.heap.size wq (.slice (some ⟨b1, o1, none⟩) cl.length cc3) (lkP n cl (k + 1)) ∧ wq.heap[qb]? = some (.cells #[.slice (some ⟨b1, o1, none⟩) cl.length cc3] 28 (0, 0)) ∧ Tch [] w2 wq) := ⟨by rw [← HLE.out]; exact HJ.out.1, HJ.out.2.1, HJ.out.2.2.2⟩
          clear HJ
          go_wp2_with fail
          go_roundw
          case rel => exact ⟨k + 1, by go_num, by omega, N1.out⟩
          case measure => simp [intOf]; omega
    · obtain rfl : k = cl.length := by omega
      have I9 : Hid (OwnP w2.heap.size wr (.slice ca3 cl.length cc3) (cl.map (liftM n)) ∧ wr.heap[qb]? = some (.cells #[.slice ca3 cl.length cc3] 28 (0, 0)) ∧ Tch [] w2 wr) := by
        have h := HI.out
        unfold lkP at h
        rw [List.take_length, List.drop_length, List.append_nil] at h
        exact h
      clear HI
      obtain ⟨b1, o1, d1, hv⟩ : ∃ b o c, Value.slice ca3 cl.length cc3 = .slice (some ⟨b, o, none⟩) cl.length c := by
        have h := I9.out.1.s
        rw [List.length_map] at h
        exact h.ptr (by omega)
      cases hv
      have q0 := cell_of_row _ _ 0 _ _ _ I9.out.2.1
      simp only [List.getElem?_toArray, List.getElem?_cons_zero] at q0
      have lq := lt_of_obj I9.out.2.1
      have hn0 : 0 < cl.length := by omega
      have hn1 : (0 : Int) < (cl.length : Int) := by omega
      have hn2 : ¬ cl.length = 0 := by omega
      go_upto_region 15 with fail
      clear q0 lq
      obtain ⟨C0, r, hcr⟩ : ∃ C r, cl = C :: r := by cases cl with | nil => simp at hn0 | cons C r => exact ⟨C, r, rfl⟩
      have hcr2 : cl.map (liftM n) = liftM n C0 :: r.map (liftM n) := by rw [hcr]; rfl
      have HOW := hid I9.out.1
      rw [hcr2] at HOW
      have QO9 := hid I9.out.2.1
      have T29 := hid I9.out.2.2
      have hq0 := HOW.out.l.q (liftM n C0) (by simp)
      have SI0 : Hid (Sl wr 36 7 C0.iv C0.ins.length (insC (C0.ins.map (liftI n)))) := by
        have h := hq0.i
        have e : (liftM n C0).ins.length = C0.ins.length := by simp [liftM]
        rw [e] at h
        exact h
      obtain ⟨ia0, ic0, hiv0⟩ := SI0.out.shape
      have hC0l : C0.ins.length ≤ 100000 := (HCI.out C0 (by rw [hcr]; simp)).1
      have HB2 : Hid (∀ W, Tch [] wr W → W.cell? ⟨b1, o1 + 2, none⟩ = some C0.iv ∧ W.frozen? ⟨b1, o1 + 2, none⟩ = false ∧ b1 < W.heap.size) := fun W t => by
        have h := HOW.out.s.kept t (by simp)
        have hlen : (liftM n C0 :: r.map (liftM n)).length = cl.length := by rw [hcr]; simp
        obtain ⟨cur, ho⟩ := sl_obj h
        have hb := (blk_at (by rw [hlen] at h ⊢; exact h) 0 (show (liftM n C0 :: r.map (liftM n))[0]? = some (liftM n C0) from rfl))
        have c2 := hb.3
        rw [Nat.zero_mul, Nat.add_zero] at c2
        exact ⟨c2, frozen_of_row _ _ _ _ _ ho, lt_of_obj ho⟩
      rw [hiv0] at HB2 SI0
      have T1R : Hid (Tch [] w1 wr) := T12.out.trans T29.out
      have KS : Hid (∀ W, Tch [] wr W → Tch [] wr W ∧ W.cell? ⟨w.heap.size, 0, none⟩ = some (.slice pa bs.length pc) ∧ W.cell? ⟨b1, o1 + 2, none⟩ = some (.slice ia0 C0.ins.length ic0)) := fun W t => ⟨t, (KP.out _ (T1R.out.trans t)).1, (HB2.out W t).1⟩
      have T0R : Hid (Tch [] w wr) := T01.out.trans T1R.out
      obtain ⟨US, hUS⟩ : ∃ u, usL (bs.flatMap BlkM.ins) = u := ⟨_, rfl⟩
      have HUSE := hid hUS
      rw [hUS] at HUS HZR
      have hzl := zerL_len n 0 US
      have hUSl : US.length = 16 := by rw [← hUS]; exact usL_len _
      obtain ⟨ZL, hZL⟩ : ∃ z, zerL n 0 US = z := ⟨_, rfl⟩
      rw [hZL] at HZR hzl
      have HZLE := hid hZL
      have HCR := hid hcr
      clear hUS hZL hq0 hcr hcr2
      refine wp_region_z (fun w' => Tch [] wr w' ∧ w'.cell? ⟨w.heap.size, 0, none⟩ = some (.slice pa bs.length pc) ∧ w'.cell? ⟨b1, o1 + 2, none⟩ = some (.slice ia0 C0.ins.length ic0)) 12 hmo (KS.out _ (Tch.refl _ _).drew) (fun hHeld => ?_)
      generalize wr.drew = x0 at *
      refine wpAnyZ_takeT 13 (i := 0) (oi := { dst := some 46, op := Go.Op.move (Go.Operand.tmp 9), type := 66, pos := "slots.go:40", after := #[], guard := none }) (v := ?_) rfl (by kernel_rfl) (by kernel_rfl) (by kernel_rfl) (by kernel_rfl) (by kernel_rfl) (fun _ _ _ h => h) (Or.inl ⟨by rfl, ?_⟩) (by assumption) ?_
      rotate_left
      (intro w hSw; (try dsimp only at hSw); go_simp; try (with_reducible rfl))
      try simp only [Act.put, List.setIfInBounds_toArray, List.set_cons_zero, List.set_cons_succ]
      refine wpAnyZ_takeT 13 (i := 1) (oi := { dst := some 47, op := Go.Op.load 28 (Go.Operand.tmp 1), type := 28, pos := "slots.go:40", after := #[], guard := none }) (v := ?_) rfl (by kernel_rfl) (by kernel_rfl) (by kernel_rfl) (by kernel_rfl) (by kernel_rfl) (fun _ _ _ h => h) (Or.inl ⟨by rfl, ?_⟩) (by assumption) ?_
      rotate_left
      (intro w hSw; (try dsimp only at hSw); go_simp; try (with_reducible rfl))
      try simp only [Act.put, List.setIfInBounds_toArray, List.set_cons_zero, List.set_cons_succ]
      refine wpAnyZ_takeT 13 (i := 3) (oi := { dst := some 49, op := Go.Op.move (Go.Operand.tmp 4), type := 3, pos := "slots.go:40", after := #[], guard := none }) (v := ?_) rfl (by kernel_rfl) (by kernel_rfl) (by kernel_rfl) (by kernel_rfl) (by kernel_rfl) (fun _ _ _ h => h) (Or.inl ⟨by rfl, ?_⟩) (by assumption) ?_
      rotate_left
      (intro w hSw; (try dsimp only at hSw); go_simp; try (with_reducible rfl))
      try simp only [Act.put, List.setIfInBounds_toArray, List.set_cons_zero, List.set_cons_succ]
      refine wpAnyZ_takeT 13 (i := 5) (oi := { dst := some 51, op := Go.Op.move (Go.Operand.tmp 9), type := 66, pos := "slots.go:40", after := #[], guard := none }) (v := ?_) rfl (by kernel_rfl) (by kernel_rfl) (by kernel_rfl) (by kernel_rfl) (by kernel_rfl) (fun _ _ _ h => h) (Or.inl ⟨by rfl, ?_⟩) (by assumption) ?_
      rotate_left
      (intro w hSw; (try dsimp only at hSw); go_simp; try (with_reducible rfl))
      try simp only [Act.put, List.setIfInBounds_toArray, List.set_cons_zero, List.set_cons_succ]
      refine wpAnyZ_takeT 13 (i := 6) (oi := { dst := some 52, op := Go.Op.nilCheck (Go.Operand.tmp 51), type := 0, pos := "slots.go:40", after := #[{ on := 5, ground := Go.Ground.data }], guard := none }) (v := ?_) rfl (by kernel_rfl) (by kernel_rfl) (by kernel_rfl) (by kernel_rfl) (by kernel_rfl) (fun _ _ _ h => h) (Or.inl ⟨by rfl, ?_⟩) (by assumption) ?_
      rotate_left
      (intro w hSw; (try dsimp only at hSw); go_simp; try (with_reducible rfl))
      try simp only [Act.put, List.setIfInBounds_toArray, List.set_cons_zero, List.set_cons_succ]
      refine wpAnyZ_takeT 13 (i := 7) (oi := { dst := some 53, op := Go.Op.fieldAddr 43 (Go.Operand.tmp 52) 2, type := 0, pos := "slots.go:40", after := #[{ on := 6, ground := Go.Ground.data }], guard := none }) (v := ?_) rfl (by kernel_rfl) (by kernel_rfl) (by kernel_rfl) (by kernel_rfl) (by kernel_rfl) (fun _ _ _ h => h) (Or.inl ⟨by rfl, ?_⟩) (by assumption) ?_
      rotate_left
      (intro w hSw; (try dsimp only at hSw); go_simp; try (with_reducible rfl))
      try simp only [Act.put, List.setIfInBounds_toArray, List.set_cons_zero, List.set_cons_succ]
      refine wpAnyZ_takeT 13 (i := 8) (oi := { dst := some 54, op := Go.Op.load 37 (Go.Operand.tmp 53), type := 37, pos := "slots.go:40", after := #[{ on := 7, ground := Go.Ground.data }], guard := none }) (v := ?_) rfl (by kernel_rfl) (by kernel_rfl) (by kernel_rfl) (by kernel_rfl) (by kernel_rfl) (fun _ _ _ h => h) (Or.inl ⟨by rfl, ?_⟩) (by assumption) ?_
      rotate_left
      (intro w hSw; (try dsimp only at hSw); go_simp; try (with_reducible rfl))
      try simp only [Act.put, List.setIfInBounds_toArray, List.set_cons_zero, List.set_cons_succ]
      refine wpAnyZ_step (i := 2) (o := { dst := some 48, op := Go.Op.call { callee := Go.Callee.value (Go.Operand.func 11), args := #[Go.Operand.tmp 47], argTypes := #[28] }, type := 44, pos := "slots.go:40", after := #[{ on := 1, ground := Go.Ground.data }], guard := none }) (by kernel_rfl) (by kernel_rfl) (fun Kq hK => ?_)
      go_simp
      go_at_call 11
      refine (HUS.out _ (T0R.out.trans hHeld.1)).mono ?_
      rintro e x2 ⟨rfl, t2⟩
      refine hK.out _ _ (KS.out _ (hHeld.1.trans t2)) (fun hH2 => ?_)
      clear hHeld hK Kq
      have hHeld := hH2
      clear hH2
      try simp only [Act.put, List.setIfInBounds_toArray, List.set_cons_zero, List.set_cons_succ]
      have TX2 := hid hHeld.1
      clear t2
      refine wpAnyZ_step (i := 4) (o := { dst := some 50, op := Go.Op.call { callee := Go.Callee.value (Go.Operand.func 22), args := #[Go.Operand.tmp 48, Go.Operand.tmp 49], argTypes := #[44, 3] }, type := 37, pos := "slots.go:40", after := #[{ on := 2, ground := Go.Ground.data }, { on := 3, ground := Go.Ground.data }, { on := 2, ground := Go.Ground.chain }], guard := none }) (by kernel_rfl) (by kernel_rfl) (fun Kq hK => ?_)
      go_simp
      go_at_call 22
      refine (HZR.out _).mono ?_
      rintro e x4 ⟨vz, rfl, s4, b4, t4⟩
      refine hK.out _ _ (KS.out _ (hHeld.1.trans t4)) (fun hH2 => ?_)
      clear hHeld hK Kq
      have hHeld := hH2
      clear hH2
      try simp only [Act.put, List.setIfInBounds_toArray, List.set_cons_zero, List.set_cons_succ]
      have TX4 := hid hHeld.1
      have S4 := hid s4
      have B4 := hid (fun k hk => Nat.le_trans TX2.out.size (b4 k hk))
      clear s4 b4 t4
      refine wpAnyZ_step (i := 9) (o := { dst := some 55, op := Go.Op.call { callee := Go.Callee.builtin Go.Builtin.append, args := #[Go.Operand.tmp 50, Go.Operand.tmp 54], argTypes := #[37, 37] }, type := 37, pos := "slots.go:40", after := #[{ on := 4, ground := Go.Ground.data }, { on := 8, ground := Go.Ground.data }, { on := 4, ground := Go.Ground.chain }], guard := none }) (by kernel_rfl) (by kernel_rfl) (fun Kq hK => ?_)
      refine step_append_v rfl _ _ 37 rfl Tryd.underlying37 info_ins rfl (by decide) vz rfl S4.out (.slice ia0 C0.ins.length ic0) rfl (SI0.out.kept TX4.out (by simp)) (ins_one _) (by omega) ?_
      intro v9 x9 s9 t9 b9
      obtain ⟨va9, vc9, hv9⟩ := s9.shape
      subst hv9
      refine hK.out _ _ (KS.out _ (hHeld.1.trans2 t9 (fun k hk => .inr (B4.out k hk)))) (fun hH2 => ?_)
      clear hHeld hK Kq
      have hHeld := hH2
      clear hH2
      try simp only [Act.put, List.setIfInBounds_toArray, List.set_cons_zero, List.set_cons_succ]
      have TX9 := hid hHeld.1
      have S9 := hid s9
      have B9 := hid (fun k hk => (b9 k hk).elim (B4.out k) (fun h => Nat.le_trans TX4.out.size h))
      clear s9 t9 b9
      refine wpAnyZ_takeT 13 (i := 10) (oi := { dst := some 56, op := Go.Op.nilCheck (Go.Operand.tmp 46), type := 0, pos := "slots.go:40", after := #[{ on := 0, ground := Go.Ground.data }, { on := 0, ground := Go.Ground.phase }, { on := 1, ground := Go.Ground.phase }, { on := 2, ground := Go.Ground.phase }, { on := 3, ground := Go.Ground.phase }, { on := 4, ground := Go.Ground.phase }, { on := 5, ground := Go.Ground.phase }, { on := 6, ground := Go.Ground.phase }, { on := 7, ground := Go.Ground.phase }, { on := 8, ground := Go.Ground.phase }, { on := 9, ground := Go.Ground.phase }], guard := none }) (v := ?_) rfl (by kernel_rfl) (by kernel_rfl) (by kernel_rfl) (by kernel_rfl) (by kernel_rfl) (fun _ _ _ h => h) (Or.inl ⟨by rfl, ?_⟩) (by assumption) ?_
      rotate_left
      (intro w hSw; (try dsimp only at hSw); go_simp; try (with_reducible rfl))
      try simp only [Act.put, List.setIfInBounds_toArray, List.set_cons_zero, List.set_cons_succ]
      refine wpAnyZ_takeT 13 (i := 11) (oi := { dst := some 57, op := Go.Op.fieldAddr 43 (Go.Operand.tmp 56) 2, type := 0, pos := "slots.go:40", after := #[{ on := 10, ground := Go.Ground.data }, { on := 0, ground := Go.Ground.phase }, { on := 1, ground := Go.Ground.phase }, { on := 2, ground := Go.Ground.phase }, { on := 3, ground := Go.Ground.phase }, { on := 4, ground := Go.Ground.phase }, { on := 5, ground := Go.Ground.phase }, { on := 6, ground := Go.Ground.phase }, { on := 7, ground := Go.Ground.phase }, { on := 8, ground := Go.Ground.phase }, { on := 9, ground := Go.Ground.phase }], guard := none }) (v := ?_) rfl (by kernel_rfl) (by kernel_rfl) (by kernel_rfl) (by kernel_rfl) (by kernel_rfl) (fun _ _ _ h => h) (Or.inl ⟨by rfl, ?_⟩) (by assumption) ?_
      rotate_left
      (intro w hSw; (try dsimp only at hSw); go_simp; try (with_reducible rfl))
      try simp only [Act.put, List.setIfInBounds_toArray, List.set_cons_zero, List.set_cons_succ]
      refine wpAnyZ_last (o := { dst := none, op := Go.Op.store 37 (Go.Operand.tmp 57) (Go.Operand.tmp 55), type := 0, pos := "slots.go:40", after := #[{ on := 11, ground := Go.Ground.data }, { on := 9, ground := Go.Ground.data }, { on := 9, ground := Go.Ground.chain }, { on := 0, ground := Go.Ground.phase }, { on := 1, ground := Go.Ground.phase }, { on := 2, ground := Go.Ground.phase }, { on := 3, ground := Go.Ground.phase }, { on := 4, ground := Go.Ground.phase }, { on := 5, ground := Go.Ground.phase }, { on := 6, ground := Go.Ground.phase }, { on := 7, ground := Go.Ground.phase }, { on := 8, ground := Go.Ground.phase }, { on := 9, ground := Go.Ground.phase }], guard := none }) (by kernel_rfl) (by kernel_rfl) (fun Kq hK => ?_)
      obtain ⟨_, ff, lf⟩ := HB2.out _ hHeld.1
      go_simp
      refine hK.out _ _ ?_
      clear hK Kq
      try simp only [Act.put, List.setIfInBounds_toArray, List.set_cons_zero, List.set_cons_succ]
      clear hHeld ff lf
      refine wpAnyZ_done (by kernel_rfl) (NoPanic.normal ?_) _
      have hlz : (ZL ++ C0.ins.map (liftI n)).length = ZL.length + C0.ins.length := by simp
      have hcz : insC (ZL ++ C0.ins.map (liftI n)) = insC ZL ++ insC (C0.ins.map (liftI n)) := by simp [insC]
      have hb1 : w2.heap.size ≤ b1 := HOW.out.v b1 (by simp [blks])
      have h2r := T29.out.size
      have OWZ : Hid (OwnP w2.heap.size (x9.setCell ⟨b1, o1 + 2, none⟩ (.slice va9 (ZL.length + C0.ins.length) vc9)) (.slice (some ⟨b1, o1, none⟩) cl.length cc3) ({ liftM n C0 with iv := .slice va9 (ZL.length + C0.ins.length) vc9, ins := ZL ++ C0.ins.map (liftI n) } :: r.map (liftM n))) :=
        (HOW.out.tch TX9.out).first rfl (by rw [hlz, hcz]; exact S9.out) (fun k hk => ⟨by have := B9.out k hk; omega, fun u hu hk2 => by have h3 := (HOW.out.l.b u hu k hk2).2; have h4 := B9.out k hk; omega⟩)
      have hw1 := LW1.out
      have hw2 := LW2.out
      have t15 : Tch [b1] x9 (x9.setCell ⟨b1, o1 + 2, none⟩ (.slice va9 (ZL.length + C0.ins.length) vc9)) := (Tch.refl _ x9).setCell (p := ⟨b1, o1 + 2, none⟩) (.inl (by simp)) _
      obtain ⟨curb, hob⟩ := sl_obj HOW.out.s
      have hqb : ¬ qb = b1 := obj_ne QO9.out hob (by decide)
      have qo := t15.obj (TX9.out.obj QO9.out (by simp)) (by simpa using hqb)
      have ro := t15.obj (TX9.out.obj (T1R.out.obj OR1.out (by simp)) (by simp)) (by simp; omega)
      have TZ : Hid (Tch [b1] wr (x9.setCell ⟨b1, o1 + 2, none⟩ (.slice va9 (ZL.length + C0.ins.length) vc9))) := (TX9.out.mono (by simp)).trans t15
      have LB1 : Hid (w.heap.size ≤ b1) := by show _ ≤ _; omega
      clear t15 hob S9 B9 hb1 h2r hw1 hw2 hqb
      generalize x9.setCell ⟨b1, o1 + 2, none⟩ (.slice va9 (ZL.length + C0.ins.length) vc9) = xz at *
      have q0 := cell_of_row _ _ 0 _ _ _ qo
      have r0 := cell_of_row _ _ 0 _ _ _ ro
      have rf : ∀ k, xz.frozen? ⟨w.heap.size + 1, k, none⟩ = false := fun k => frozen_of_row _ _ _ _ _ ro
      simp only [List.getElem?_toArray, List.getElem?_cons_zero] at q0 r0
      have lq := lt_of_obj qo
      have lr := lt_of_obj ro
      have RO := hid ro
      clear qo ro
      go_wp2_with fail
      have o16 : (xz.setCell ⟨w.heap.size + 1, 0, none⟩ (.slice (some ⟨b1, o1, none⟩) cl.length cc3)).heap[w.heap.size + 1]? = some (.cells #[.slice (some ⟨b1, o1, none⟩) cl.length cc3] 28 (0, 0)) := heap_setCell_same _ _ _ _ _ _ RO.out
      have t16 : Tch [w.heap.size + 1] xz (xz.setCell ⟨w.heap.size + 1, 0, none⟩ (.slice (some ⟨b1, o1, none⟩) cl.length cc3)) := (Tch.refl _ xz).setCell (p := ⟨w.heap.size + 1, 0, none⟩) (.inl (by simp)) _
      refine bodyPost_ret (v := .agg #[.slice (some ⟨b1, o1, none⟩) cl.length cc3]) (results_cell_row Tryd.results8 _ _ (w.heap.size + 1) 28 _ (0, 0) _ rfl o16 Tryd.underlying28 rfl (by kernel_rfl)) rfl ?_
      have hw1 := LW1.out
      have hw2 := LW2.out
      have hlb := LB1.out
      refine ⟨_, rfl, _, (OWZ.out.prg RO.out t16).low (by omega), fb, HFB.out, ?_, ?_⟩
      · rw [HUSE.out, HZLE.out]
        exact liftP_pd (by rw [← HCR.out]; exact HPD.out)
      · exact (T0R.out.trans2 TZ.out (fun k hk => .inr (by simp at hk; omega))).trans2 t16 (fun k hk => .inr (by simp at hk; omega))
end Go.Proofs.YtkcblhaldahooaaDoor
