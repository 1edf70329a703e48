
/- IrPrograms (P3.2: programs that may be: how much there is; copies are the same, and apart): its walk. -/
import Derived.Test.YtjkokokddijpkaaDoorIpV
import Derived.Test.YtjkokokddijpkaaDoorStC
import Derived.Test.YtjkokokddijpkaaDoorFd
import Derived.Test.YtjkokokddijpkaaDoorJx
import Derived.Test.YtjkokokddijpkaaDoorJk
import Derived.Deep.CutRange
import Derived.Sort.CutIn
set_option linter.unusedSimpArgs false
set_option linter.unusedVariables false
namespace Go.Proofs.YtjkokokddijpkaaDoor
open Go.RowKit Go.Sort Go.Maps
attribute [local go_sem] Oper.semAt_some

theorem Fm.cell1 {W0 W : World} {b8 : Nat} {d : Int} {c1 c2 i1 i2 : Value} {l1 l2 : List Int} (h : Fm W0 W b8 d c1 c2 i1 i2 l1 l2) : W.cell? ⟨b8, 1, none⟩ = some c1 ∧ W.frozen? ⟨b8, 1, none⟩ = false ∧ b8 < W.heap.size := by
  refine ⟨?_, frozen_of_row _ _ _ _ _ h.o, lt_of_obj h.o⟩
  have := cell_of_row _ _ 1 _ _ _ h.o
  simpa using this
theorem Fm.cell2 {W0 W : World} {b8 : Nat} {d : Int} {c1 c2 i1 i2 : Value} {l1 l2 : List Int} (h : Fm W0 W b8 d c1 c2 i1 i2 l1 l2) : W.cell? ⟨b8, 2, none⟩ = some c2 ∧ W.frozen? ⟨b8, 2, none⟩ = false ∧ b8 < W.heap.size := by
  refine ⟨?_, frozen_of_row _ _ _ _ _ h.o, lt_of_obj h.o⟩
  have := cell_of_row _ _ 2 _ _ _ h.o
  simpa using this
theorem tch_bkI {S : List Nat} {w4 W W' : World} (t0 : Tch S w4 W) {row : Option Nat} {B : Nat} (g : W.grownBy W' row) (hr : ∀ r, row = some r → B ≤ r ∧ ∃ o : Obj, W.heap[r]? = some o ∧ isBk o = true) (hB : w4.heap.size ≤ B) : Tch S w4 W' :=
  t0.trans2 (Tch.of_grown (S := row.toList) g (fun k e => by rw [e]; simp)) (fun k hk => .inr (by
    cases row with
    | none => simp at hk
    | some r => simp at hk; subst hk; exact Nat.le_trans hB (hr k rfl).1))
theorem own_bkI {X Y : World} {row : Option Nat} {B : Nat} (g : X.grownBy Y row) (hr : ∀ r, row = some r → B ≤ r ∧ ∃ o : Obj, X.heap[r]? = some o ∧ isBk o = true) {k : Nat} {o : Obj} (hk : X.heap[k]? = some o) (ho : isBk o = false) : Y.heap[k]? = some o := (g.block k (lt_of_obj hk) (fun e => by
    obtain ⟨_, o2, h2, hc⟩ := hr k e.symm
    rw [hk] at h2
    cases h2
    rw [ho] at hc; cases hc)).trans hk
def kO (k : Nat) : Obj := .cells #[.int .i64 (k : Int)] 3 (0, 0)
theorem celT {w w' : World} {sz n : Nat} {v : Value} {cs : List Value} (h : Cel w sz v n cs) (t : Tch [] w w') : Cel w' sz v n cs := by
  obtain ⟨h0, a, c, h1, h2, h3⟩ := h
  refine ⟨h0, a, c, h1, h2, h3.imp id ?_⟩
  rintro ⟨b, off, h4, h5⟩
  exact ⟨b, off, h4, fun j u hj => tch_val t (h5 j u hj) (by simp)⟩
theorem smlT {w w' : World} {x : SmlM} (h : SmlOk w x) (t : Tch [] w w') : SmlOk w' x :=
  ⟨h.r, celT h.b t, fun y hy => ⟨celT (h.q y hy).l t, (h.q y hy).w, (h.q y hy).e, (h.q y hy).a, (h.q y hy).y, (h.q y hy).n⟩⟩
theorem kindsT {w w' : World} (h : Kinds w) (t : Tch [] w w') : Kinds w' := fun k j hk hj => by
  have := h k j hk hj
  exact tch_val t this (by simp)
theorem pd_sm {cs qs : List BlkM} (h : cs.map BlkM.pd = qs.map BlkM.pd) (hq : ∀ B ∈ qs, BlkSm B) : ∀ B ∈ cs, BlkSm B := fun B hB x hx => by
  have h2 : B.pd ∈ qs.map BlkM.pd := by rw [← h]; exact List.mem_map.2 ⟨B, hB, rfl⟩
  obtain ⟨C, hC, e⟩ := List.mem_map.1 h2
  have h3 := congrArg (fun p : Int × List (Int × List Int × List Int) × List InsM × Int × Int × Int × Int => p.2.1) e
  simp only [BlkM.pd] at h3
  have h4 : x.pd ∈ C.phis.map PhiM.pd := by rw [h3]; exact List.mem_map.2 ⟨x, hx, rfl⟩
  obtain ⟨y, hy, e2⟩ := List.mem_map.1 h4
  have h5 := hq C hC y hy
  simp only [PhiM.pd, Prod.mk.injEq] at e2
  obtain ⟨_, e4, e5⟩ := e2
  unfold PhiSm at h5 ⊢
  rw [← e4, ← e5]; exact h5
theorem pd_head {C Q : BlkM} {r r2 : List BlkM} {f : PhiM} (h : (C :: r).map BlkM.pd = (Q :: r2).map BlkM.pd) (h0 : Q.phis = [f]) : ∃ x, C.phis = [x] ∧ x.d = f.d := by
  simp only [List.map_cons, List.cons.injEq] at h
  have h3 := congrArg (fun p : Int × List (Int × List Int × List Int) × List InsM × Int × Int × Int × Int => p.2.1) h.1
  simp only [BlkM.pd, h0, List.map_cons, List.map_nil] at h3
  match hc : C.phis with
  | [] => rw [hc] at h3; cases h3
  | [x] =>
    rw [hc] at h3
    simp only [List.map_cons, List.map_nil, List.cons.injEq, and_true, PhiM.pd, Prod.mk.injEq] at h3
    exact ⟨x, rfl, h3.1⟩
  | _ :: _ :: _ => rw [hc] at h3; simp at h3
theorem same_no {C Q : BlkM} {r r2 : List BlkM} {f x : PhiM} (h0 : Q.phis = [f]) (h1 : C.phis = [x]) (hd : ¬ f.d = x.d) : samP (Q :: r) (C :: r2) = false := by
  cases hs : samP (Q :: r) (C :: r2) with
  | false => rfl
  | true =>
    have h2 := (samP_iff _ _).1 hs
    obtain ⟨y, e1, e2⟩ := pd_head h2 h1
    rw [h0] at e1
    cases e1
    exact absurd e2 hd
theorem same_not {qs bs : List BlkM} {Q : BlkM} {f : PhiM} (hQ : Q ∈ qs) (h0 : Q.phis = [f]) (hb : ∀ B ∈ bs, B.phis = []) : samP bs qs = false ∧ plainB qs = false := by
  constructor
  · cases hs : samP bs qs with
    | false => rfl
    | true =>
      have h2 := pd_phis ((samP_iff _ _).1 hs).symm hb Q hQ
      rw [h0] at h2; cases h2
  · cases hs : plainB qs with
    | false => rfl
    | true =>
      have h2 := List.all_eq_true.1 hs Q hQ
      rw [h0] at h2; cases h2
set_option maxRecDepth 100000 in
set_option maxHeartbeats 32000000 in
theorem irPrograms_walk (s : SmlM) (d : Int) (l : List Int) (la : Option Addr) (lc : Nat) (w : World) (hk : Kinds w) (hs : SmlOk w s) (hu : Cel w 1 (.slice la l.length lc) l.length (l.flatMap fun y => [.int .u8 y])) (hb : ∀ x ∈ l, 0 ≤ x ∧ x ≤ 255) (d0 : 0 ≤ d) (d1 : d ≤ 255) :
    Calls Tryd.prog 3 #[.agg #[.int .u8 s.r, .bool s.bare, s.bv], .int .u8 d, .slice la l.length lc] w fun r w' => r = .returned (.bool true) ∧ Tch [] w w' := by
  have hmo : Tryd.prog.follows .mixedOrders = true := by kernel_rfl
  have HL := hid (fun W (h : SmlOk W s) => light_any s W h)
  have HPG := hid (fun W (hk : Kinds W) (h : SmlOk W s) hl => program_any s W hk h hl)
  obtain ⟨va, vc, hbv, _⟩ := hs.b.shape
  rw [hbv] at HL HPG
  rw [hbv]
  have HS := hid hs
  have HKI := hid hk
  have HU := hid hu
  have HB := hid hb
  have HDD := hid (⟨d0, d1⟩ : 0 ≤ d ∧ d ≤ 255)
  have hlm : l.length ≤ maxLen := by obtain ⟨_, _, _, h2, _⟩ := hu.2; exact h2
  unfold maxLen at hlm
  have G0 := hid (((Tch.refl [] w).alloc (.cells #[.int .u8 s.r, .bool s.bare, .slice va s.bs.length vc] 24)).alloc (.cells #[.bool false] 4))
  have oz : ((w.alloc (.cells #[.int .u8 s.r, .bool s.bare, .slice va s.bs.length vc] 24)).alloc (.cells #[.bool false] 4)).heap[w.heap.size]? = some (.cells #[.int .u8 s.r, .bool s.bare, .slice va s.bs.length vc] 24 (0, 0)) := ((Tch.refl [] _).alloc _).obj (heap_alloc_new w _) (by simp)
  have orb : ((w.alloc (.cells #[.int .u8 s.r, .bool s.bare, .slice va s.bs.length vc] 24)).alloc (.cells #[.bool false] 4)).heap[w.heap.size + 1]? = some (.cells #[.bool false] 4 (0, 0)) := by
    have := heap_alloc_new (w.alloc (.cells #[.int .u8 s.r, .bool s.bare, .slice va s.bs.length vc] 24)) (.cells #[.bool false] 4)
    rwa [show (w.alloc (.cells #[.int .u8 s.r, .bool s.bare, .slice va s.bs.length vc] 24)).heap.size = w.heap.size + 1 by simp] at this
  have OZ := hid oz
  have RB := hid orb
  clear oz orb hs hk hu hb hbv d0 d1
  refine calls_marks Tryd.func3 rfl ?_
  simp only [Tryd.ntmps3, List.size_toArray, List.length_cons, List.length_nil, Nat.reduceAdd, Nat.reduceSub, Array.replicate_succ, Array.replicate_zero, List.push_toArray, List.append_toArray, List.nil_append, List.cons_append]
  go_upto_region 1 with fail
  generalize (w.alloc (.cells #[.int .u8 s.r, .bool s.bare, .slice va s.bs.length vc] 24)).alloc (.cells #[.bool false] 4) = w0 at *
  obtain ⟨rb, hrb⟩ : ∃ rb, w.heap.size + 1 = rb := ⟨_, rfl⟩
  obtain ⟨zb, hzb⟩ : ∃ zb, w.heap.size = zb := ⟨_, rfl⟩
  have LRB : Hid (w.heap.size ≤ rb) := hid (by omega)
  rw [hrb] at RB ⊢
  rw [hzb] at OZ ⊢
  clear hrb hzb
  have HAW := hid (awake w0 (kindsT HKI.out G0.out))
  go_upto_region 3 with (go_at_call 4; refine HAW.out.mono ?_; rintro r w1 ⟨rfl, g1⟩; have G01 := hid g1.tch; clear g1)
  have G1 := hid (G0.out.trans G01.out)
  replace RB := hid (G01.out.obj RB.out (by simp))
  replace OZ := hid (G01.out.obj OZ.out (by simp))
  clear G0 G01 HAW
  have z0 := cell_of_row _ _ 0 _ _ _ OZ.out
  have z1 := cell_of_row _ _ 1 _ _ _ OZ.out
  have z2 := cell_of_row _ _ 2 _ _ _ OZ.out
  simp only [List.getElem?_toArray, List.getElem?_cons_zero, List.getElem?_cons_succ] at z0 z1 z2
  have lz := lt_of_obj OZ.out
  by_cases hlb : lightB s = true
  rotate_left
  · have hlf : lightB s = false := by simpa using hlb
    rw [hlf] at HL
    clear hlb hlf HPG
    go_upto_region 4 with (go_at_call 5; refine (HL.out _ (smlT HS.out G1.out)).mono ?_; rintro r w2 ⟨rfl, g2⟩; have G12 := hid g2.tch; clear g2)
    have G2 := hid (G1.out.trans G12.out)
    have orb := G12.out.obj RB.out (by simp)
    have cr := cell_of_row _ _ 0 _ _ _ orb
    simp only [List.getElem?_toArray, List.getElem?_cons_zero] at cr
    have fr := frozen_of_row _ _ 0 _ _ orb
    have lr := lt_of_obj orb
    clear orb
    go_wp2_with fail
    (try simp only [Exit.inBlock, Exit.then])
    exact ⟨.bool true, (by simp [results, Tryd.results3, go_sem, cr]), rfl, G2.out.setCell (p := ⟨rb, 0, none⟩) (.inr LRB.out) _⟩
  rw [hlb] at HL
  replace HPG := hid (fun W (hk : Kinds W) (h : SmlOk W s) => HPG.out W hk h hlb)
  have hl2 : (∀ b ∈ s.bs, b.ls.length ≤ 10) ∧ s.bs.length ≤ 8 := by simpa [lightB] using hlb
  have HL8 := hid hl2
  clear hlb hl2
  by_cases hll : l.length ≤ 10
  rotate_left
  · have hlI : (10 : Int) < (l.length : Int) := by omega
    clear hll
    go_upto_region 4 with (go_at_call 5; refine (HL.out _ (smlT HS.out G1.out)).mono ?_; rintro r w2 ⟨rfl, g2⟩; have G12 := hid g2.tch; clear g2)
    have G2 := hid (G1.out.trans G12.out)
    have orb := G12.out.obj RB.out (by simp)
    have cr := cell_of_row _ _ 0 _ _ _ orb
    simp only [List.getElem?_toArray, List.getElem?_cons_zero] at cr
    have fr := frozen_of_row _ _ 0 _ _ orb
    have lr := lt_of_obj orb
    clear orb
    go_wp2_with fail
    (try simp only [Exit.inBlock, Exit.then])
    exact ⟨.bool true, (by simp [results, Tryd.results3, go_sem, cr]), rfl, G2.out.setCell (p := ⟨rb, 0, none⟩) (.inr LRB.out) _⟩
  have hlI : (l.length : Int) ≤ 10 := by omega
  have HLL := hid hll
  clear hll
  go_upto_region 5 with (go_at_call 5; refine (HL.out _ (smlT HS.out G1.out)).mono ?_; rintro r w2 ⟨rfl, g2⟩; have G12 := hid g2.tch; clear g2)
  have G2 := hid (G1.out.trans G12.out)
  replace RB := hid (G12.out.obj RB.out (by simp))
  have y0 := tch_val G12.out z0 (by simp)
  have y1 := tch_val G12.out z1 (by simp)
  have y2 := tch_val G12.out z2 (by simp)
  have ly := lt_of_obj (G12.out.obj OZ.out (by simp))
  clear G1 G12 z0 z1 z2 lz OZ HL hlI
  have HK2 := hid (kindsT HKI.out G2.out)
  go_upto_region 6 with (go_at_call 6; refine (HPG.out _ HK2.out (smlT HS.out G2.out)).mono ?_; rintro r w3 ⟨v, bp, bs, rfl, own, hab, g3⟩; obtain ⟨pa, pc, hpv⟩ := own.b.shape; subst hpv; have OW := hid own; have HAB := hid hab; have G23 := hid g3.tch; clear own hab g3)
  have P1 : Hid (Prog1 s bs) := prog1 HL8.out.2 HL8.out.1 HAB.out (fun B hB => (OW.out.p B hB).2)
  have hbl : 1 ≤ bs.length ∧ bs.length ≤ 8 := by have h1 := P1.out.n; have h2 := len_in s HL8.out.2; omega
  obtain ⟨pb, po, pc', hpp⟩ := OW.out.b.ptr (by omega)
  cases hpp
  have g4 : Tch [] w3 (w3.alloc (.cells #[.slice (some ⟨pb, po, none⟩) bs.length pc] 29)) := (Tch.refl [] w3).alloc _
  have o7 := heap_alloc_new w3 (.cells #[.slice (some ⟨pb, po, none⟩) bs.length pc] 29)
  have PO4 : Hid (ProgOk (w3.alloc (.cells #[.slice (some ⟨pb, po, none⟩) bs.length pc] 29)) (.slice (some ⟨pb, po, none⟩) bs.length pc) bs) := hid (OW.out.ok.tchT g4)
  have hNP : ∀ B ∈ bs, B.pv = .slice none 0 0 ∧ B.phis = [] := OW.out.p
  have HNP := hid hNP
  have G4 := hid ((G2.out.trans G23.out).trans g4)
  replace RB := hid (g4.obj (G23.out.obj RB.out (by simp)) (by simp))
  clear hNP y0 y1 y2 ly HPG HK2 HS G2 OW
  generalize w3.alloc (.cells #[.slice (some ⟨pb, po, none⟩) bs.length pc] 29) = w4 at *
  have O7 := hid o7
  clear o7 g4 G23
  generalize w3.heap.size = b7 at *
  have c7 := cell_of_row _ _ 0 _ _ _ O7.out
  simp only [List.getElem?_toArray, List.getElem?_cons_zero] at c7
  have l7 := lt_of_obj O7.out
  have hcm := P1.out.count HL8.out.2
  have HCK := hid (check_any _ bs w4 (kindsT HKI.out G4.out) PO4.out P1.out.wf (by omega))
  rw [P1.out.ok HL8.out.2] at HCK
  have hpl : plainB bs = true := by
    unfold plainB
    rw [List.all_eq_true]
    intro B hB
    rw [(HNP.out B hB).2]; rfl
  have HPL := hid (fun W (g : Tch [] w4 W) => plain_any _ bs W (PO4.out.tchT g))
  rw [hpl] at HPL
  clear hpl
  go_upto_region 8 with (first
    | (go_at_call 7; refine HCK.out.mono ?_; rintro r w5 ⟨rfl, g5⟩; have G45 := hid g5.tch; have c75 := g5.val c7; have l75 := lt_of_obj (g5.obj O7.out); clear g5)
    | (go_at_call 8; refine (HPL.out _ G45.out).mono ?_; rintro r w6 ⟨rfl, t6⟩; have T56 := hid t6; clear t6))
  have T46 := hid (G45.out.trans T56.out)
  have G6 := hid (G4.out.trans T46.out)
  have PO6 := hid (PO4.out.tchT T46.out)
  have O76 := hid (T46.out.obj O7.out (by simp))
  replace RB := hid (T46.out.obj RB.out (by simp))
  clear c7 l7 c75 l75 HCK HPL G45 T56 G4 O7 PO4 T46
  rename World => w6
  have t7 : Tch [] w6 (w6.alloc (.cells #[.int .i64 0, .slice none 0 0, .slice none 0 0] 35)) := (Tch.refl [] w6).alloc _
  have LF0 : Hid (Fm w6 (w6.alloc (.cells #[.int .i64 0, .slice none 0 0, .slice none 0 0] 35)) w6.heap.size 0 (.slice none 0 0) (.slice none 0 0) (.slice none 0 0) (.slice none 0 0) [] []) := hid ⟨heap_alloc_new w6 _, Sl.nil _ _ _, Sl.nil _ _ _, by simp [blks], by simp [blks], by simp [blks], Nat.le_refl _, t7⟩
  go_upto_region 9 with fail
  generalize w6.alloc (.cells #[.int .i64 0, .slice none 0 0, .slice none 0 0] 35) = w7 at *
  obtain ⟨b8, hb8⟩ : ∃ b, w6.heap.size = b := ⟨_, rfl⟩
  have HN8 : Hid (b8 = w6.heap.size) := hid hb8.symm
  rw [hb8] at LF0 ⊢
  clear hb8 t7
  have L7 : Hid (b7 < w6.heap.size ∧ pb < w6.heap.size) := hid ⟨lt_of_obj O76.out, PO6.out.b.lt pb (by simp [blks])⟩
  go_upto_region 10 with fail
  go_loopw [51] (fun vi wr => ∃ (k m : Nat) (a1 a2 : Option Addr) (c1 c2 : Nat), vi = .int .i64 k ∧ k ≤ l.length ∧ Hid (m = min k bs.length) ∧ Hid (Fm w6 wr b8 0 (.slice a1 m c1) (.slice a2 m c2) (.slice a1 m c1) (.slice a2 m c2) ((labsOf bs).take k) (l.take m))) (fun vi _ => l.length - (intOf vi).toNat)
  case atStart => exact ⟨0, 0, none, none, 0, 0, rfl, Nat.zero_le _, hid (by simp), LF0.out⟩
  case round =>
    obtain ⟨k, m, a1, a2, c1, c2, rfl, hk, HM, HF⟩ := hrel
    clear LF0
    by_cases hlt : k < l.length
    · obtain ⟨av, hav⟩ : ∃ x, l[k]? = some x := ⟨l[k], by simp [hlt]⟩
      have hab2 := HB.out av (List.mem_of_getElem? hav)
      have eav : IntKind.i64.wrap av = av := by rw [IntKind.wrap_i64]; omega
      have cu := celT HU.out (G6.out.trans HF.out.g)
      obtain ⟨ub, uo, uc, hv⟩ := cu.ptr (by omega)
      cases hv
      have ca := cu.cell (by omega) k (u := .int .u8 av) (by
        have := flatMap_get (f := fun y : Int => [Value.int .u8 y]) (sz := 1) (fun _ => rfl) l k 0 av hav (by omega)
        rw [Nat.mul_one, Nat.add_zero] at this
        rw [this]; rfl)
      have lca := cell_lt ca
      simp only at lca
      have C7 := hid (tch_val HF.out.g (by have := cell_of_row _ _ 0 _ _ _ O76.out; simpa using this) (by simp))
      have c7 : wr.cell? ⟨b7, 0, none⟩ = some (.slice (some ⟨pb, po, none⟩) bs.length pc) := C7.out
      have l7 := cell_lt c7
      simp only at l7
      have HAV := hid hav
      clear cu hav hab2
      by_cases hkb : k < bs.length
      · obtain ⟨B, hBx⟩ : ∃ x, bs[k]? = some x := ⟨bs[k], by simp [hkb]⟩
        obtain rfl : m = k := by have := HM.out; omega
        obtain ⟨p0, _⟩ := blk_at (PO6.out.b.kept HF.out.g (by simp)) m hBx
        have CL := hid p0
        have HLB : Hid ((labsOf bs)[m]? = some B.lab) := hid (by unfold labsOf; rw [List.getElem?_map, hBx]; rfl)
        have hlbs : (labsOf bs).length = bs.length := by simp [labsOf]
        obtain ⟨lb, hlb⟩ : ∃ x, B.lab = x := ⟨_, rfl⟩
        rw [hlb] at CL HLB
        have hkI : (m : Int) < (bs.length : Int) := by omega
        obtain ⟨l1, hl1⟩ : ∃ q, (labsOf bs).take m = q := ⟨_, rfl⟩
        obtain ⟨l2, hl2⟩ : ∃ q, l.take m = q := ⟨_, rfl⟩
        have hn1 : l1.length = m := by rw [← hl1, List.length_take, hlbs]; omega
        have hn2 : l2.length = m := by rw [← hl2, List.length_take]; omega
        have LZ := HF
        rw [hl1, hl2] at LZ
        have HL1 : Hid ((labsOf bs).take (m + 1) = l1 ++ [lb]) := hid (by
          obtain ⟨h1, h2⟩ := List.getElem?_eq_some_iff.1 HLB.out
          rw [← hl1, List.take_succ_eq_append_getElem h1, h2])
        have HL2 : Hid (l.take (m + 1) = l2 ++ [av]) := hid (by
          obtain ⟨h1, h2⟩ := List.getElem?_eq_some_iff.1 HAV.out
          rw [← hl2, List.take_succ_eq_append_getElem h1, h2])
        have hml := HLL.out
        clear p0 hBx hlb hl1 hl2 HF hlbs
        obtain ⟨wz, hwz⟩ : ∃ z : World, z = wr := ⟨_, rfl⟩
        go_upto_region 13 with fail
        clear ca lca
        subst hwz
        have KT : Hid (∀ w', Tch (blks (.slice a1 m c1) ++ blks (.slice a2 m c2)) wz w' → Tch (blks (.slice a1 m c1) ++ blks (.slice a2 m c2)) wz w' ∧ w'.cell? ⟨b8, 1, none⟩ = some (.slice a1 m c1) ∧ w'.cell? ⟨b8, 2, none⟩ = some (.slice a2 m c2) ∧ w'.cell? ⟨b7, 0, none⟩ = some (.slice (some ⟨pb, po, none⟩) bs.length pc) ∧ w'.cell? ⟨pb, po + m * 7, none⟩ = some (.int .i64 lb)) := fun w' t => by
          have n1 := sl_ne LZ.out.s1 LZ.out.o (by decide)
          have n2 := sl_ne LZ.out.s2 LZ.out.o (by decide)
          have oz := t.obj LZ.out.o (fun h1 => (List.mem_append.1 h1).elim (fun h => n1 _ h rfl) (fun h => n2 _ h rfl))
          have q1 := cell_of_row _ _ 1 _ _ _ oz
          have q2 := cell_of_row _ _ 2 _ _ _ oz
          simp only [List.getElem?_toArray, List.getElem?_cons_zero, List.getElem?_cons_succ] at q1 q2
          have key : ∀ k, k < w6.heap.size → ¬ k ∈ blks (.slice a1 m c1) ++ blks (.slice a2 m c2) := fun k hk h1 => (List.mem_append.1 h1).elim (fun h => by have := LZ.out.g1 _ h; omega) (fun h => by have := LZ.out.g2 _ h; omega)
          exact ⟨t, q1, q2, tch_val t C7.out (key b7 L7.out.1), tch_val t CL.out (key pb L7.out.2)⟩
        refine wp_region_w (fun w' => Tch (blks (.slice a1 m c1) ++ blks (.slice a2 m c2)) wz w' ∧ w'.cell? ⟨b8, 1, none⟩ = some (.slice a1 m c1) ∧ w'.cell? ⟨b8, 2, none⟩ = some (.slice a2 m c2) ∧ w'.cell? ⟨b7, 0, none⟩ = some (.slice (some ⟨pb, po, none⟩) bs.length pc) ∧ w'.cell? ⟨pb, po + m * 7, none⟩ = some (.int .i64 lb)) 17 hmo (KT.out _ (Tch.refl _ _).drew) (fun hHeld => ?_)
        have LA := hid (LZ.out.tch (Tch.refl [] wz).drew)
        generalize wz.drew = x0 at *
        refine wpAnyW_take 20 (i := 0) (oi := { dst := some 61, op := Go.Op.fieldAddr 35 (Go.Operand.tmp 8) 1, type := 0, pos := "law.go:161", after := #[], guard := none }) (v := ?_) rfl (by kernel_rfl) (by kernel_rfl) (by kernel_rfl) (by kernel_rfl) (by kernel_rfl) (by kernel_rfl) (fun _ _ _ h => h) (Or.inl ⟨by rfl, ?_⟩) (by assumption) ?_
        rotate_left
        (intro w hSw; (try dsimp only at hSw); go_simp; try (with_reducible rfl))
        try simp only [Act.put, List.setIfInBounds_toArray, List.set_cons_zero, List.set_cons_succ]
        refine wpAnyW_take 20 (i := 1) (oi := { dst := some 62, op := Go.Op.load 33 (Go.Operand.tmp 61), type := 33, pos := "law.go:161", after := #[{ on := 0, ground := Go.Ground.data }], guard := none }) (v := ?_) rfl (by kernel_rfl) (by kernel_rfl) (by kernel_rfl) (by kernel_rfl) (by kernel_rfl) (by kernel_rfl) (fun _ _ _ h => h) (Or.inl ⟨by rfl, ?_⟩) (by assumption) ?_
        rotate_left
        (intro w hSw; (try dsimp only at hSw); go_simp; try (with_reducible rfl))
        try simp only [Act.put, List.setIfInBounds_toArray, List.set_cons_zero, List.set_cons_succ]
        refine wpAnyW_take 20 (i := 2) (oi := { dst := some 63, op := Go.Op.fieldAddr 29 (Go.Operand.tmp 7) 0, type := 0, pos := "law.go:161", after := #[], guard := none }) (v := ?_) rfl (by kernel_rfl) (by kernel_rfl) (by kernel_rfl) (by kernel_rfl) (by kernel_rfl) (by kernel_rfl) (fun _ _ _ h => h) (Or.inl ⟨by rfl, ?_⟩) (by assumption) ?_
        rotate_left
        (intro w hSw; (try dsimp only at hSw); go_simp; try (with_reducible rfl))
        try simp only [Act.put, List.setIfInBounds_toArray, List.set_cons_zero, List.set_cons_succ]
        refine wpAnyW_take 20 (i := 3) (oi := { dst := some 64, op := Go.Op.load 27 (Go.Operand.tmp 63), type := 27, pos := "law.go:161", after := #[{ on := 2, ground := Go.Ground.data }], guard := none }) (v := ?_) rfl (by kernel_rfl) (by kernel_rfl) (by kernel_rfl) (by kernel_rfl) (by kernel_rfl) (by kernel_rfl) (fun _ _ _ h => h) (Or.inl ⟨by rfl, ?_⟩) (by assumption) ?_
        rotate_left
        (intro w hSw; (try dsimp only at hSw); go_simp; try (with_reducible rfl))
        try simp only [Act.put, List.setIfInBounds_toArray, List.set_cons_zero, List.set_cons_succ]
        refine wpAnyW_take 20 (i := 4) (oi := { dst := some 65, op := Go.Op.move (Go.Operand.tmp 9), type := 3, pos := "law.go:161", after := #[], guard := none }) (v := ?_) rfl (by kernel_rfl) (by kernel_rfl) (by kernel_rfl) (by kernel_rfl) (by kernel_rfl) (by kernel_rfl) (fun _ _ _ h => h) (Or.inl ⟨by rfl, ?_⟩) (by assumption) ?_
        rotate_left
        (intro w hSw; (try dsimp only at hSw); go_simp; try (with_reducible rfl))
        try simp only [Act.put, List.setIfInBounds_toArray, List.set_cons_zero, List.set_cons_succ]
        refine wpAnyW_take 20 (i := 5) (oi := { dst := some 66, op := Go.Op.indexAddr 27 (Go.Operand.tmp 64) (Go.Operand.tmp 65), type := 0, pos := "law.go:161", after := #[{ on := 3, ground := Go.Ground.data }, { on := 4, ground := Go.Ground.data }], guard := none }) (v := ?_) rfl (by kernel_rfl) (by kernel_rfl) (by kernel_rfl) (by kernel_rfl) (by kernel_rfl) (by kernel_rfl) (fun _ _ _ h => h) (Or.inl ⟨by rfl, ?_⟩) (by assumption) ?_
        rotate_left
        (intro w hSw; (try dsimp only at hSw); go_simp; try (with_reducible rfl))
        try simp only [Act.put, List.setIfInBounds_toArray, List.set_cons_zero, List.set_cons_succ]
        refine wpAnyW_take 20 (i := 6) (oi := { dst := some 67, op := Go.Op.fieldAddr 42 (Go.Operand.tmp 66) 0, type := 0, pos := "law.go:161", after := #[{ on := 5, ground := Go.Ground.data }], guard := none }) (v := ?_) rfl (by kernel_rfl) (by kernel_rfl) (by kernel_rfl) (by kernel_rfl) (by kernel_rfl) (by kernel_rfl) (fun _ _ _ h => h) (Or.inl ⟨by rfl, ?_⟩) (by assumption) ?_
        rotate_left
        (intro w hSw; (try dsimp only at hSw); go_simp; try (with_reducible rfl))
        try simp only [Act.put, List.setIfInBounds_toArray, List.set_cons_zero, List.set_cons_succ]
        refine wpAnyW_take 20 (i := 7) (oi := { dst := some 68, op := Go.Op.load 3 (Go.Operand.tmp 67), type := 3, pos := "law.go:161", after := #[{ on := 6, ground := Go.Ground.data }], guard := none }) (v := ?_) rfl (by kernel_rfl) (by kernel_rfl) (by kernel_rfl) (by kernel_rfl) (by kernel_rfl) (by kernel_rfl) (fun _ _ _ h => h) (Or.inl ⟨by rfl, ?_⟩) (by assumption) ?_
        rotate_left
        (intro w hSw; (try dsimp only at hSw); go_simp; try (with_reducible rfl))
        try simp only [Act.put, List.setIfInBounds_toArray, List.set_cons_zero, List.set_cons_succ]
        refine wpAnyW_take 20 (i := 10) (oi := { dst := some 71, op := Go.Op.fieldAddr 35 (Go.Operand.tmp 8) 2, type := 0, pos := "law.go:161", after := #[], guard := none }) (v := ?_) rfl (by kernel_rfl) (by kernel_rfl) (by kernel_rfl) (by kernel_rfl) (by kernel_rfl) (by kernel_rfl) (fun _ _ _ h => h) (Or.inl ⟨by rfl, ?_⟩) (by assumption) ?_
        rotate_left
        (intro w hSw; (try dsimp only at hSw); go_simp; try (with_reducible rfl))
        try simp only [Act.put, List.setIfInBounds_toArray, List.set_cons_zero, List.set_cons_succ]
        refine wpAnyW_take 20 (i := 11) (oi := { dst := some 72, op := Go.Op.load 33 (Go.Operand.tmp 71), type := 33, pos := "law.go:161", after := #[{ on := 10, ground := Go.Ground.data }], guard := none }) (v := ?_) rfl (by kernel_rfl) (by kernel_rfl) (by kernel_rfl) (by kernel_rfl) (by kernel_rfl) (by kernel_rfl) (fun _ _ _ h => h) (Or.inl ⟨by rfl, ?_⟩) (by assumption) ?_
        rotate_left
        (intro w hSw; (try dsimp only at hSw); go_simp; try (with_reducible rfl))
        try simp only [Act.put, List.setIfInBounds_toArray, List.set_cons_zero, List.set_cons_succ]
        refine wpAnyW_take 20 (i := 12) (oi := { dst := some 73, op := Go.Op.move (Go.Operand.tmp 10), type := 5, pos := "law.go:161", after := #[], guard := none }) (v := ?_) rfl (by kernel_rfl) (by kernel_rfl) (by kernel_rfl) (by kernel_rfl) (by kernel_rfl) (by kernel_rfl) (fun _ _ _ h => h) (Or.inl ⟨by rfl, ?_⟩) (by assumption) ?_
        rotate_left
        (intro w hSw; (try dsimp only at hSw); go_simp; try (with_reducible rfl))
        try simp only [Act.put, List.setIfInBounds_toArray, List.set_cons_zero, List.set_cons_succ]
        refine wpAnyW_take 20 (i := 13) (oi := { dst := some 74, op := Go.Op.convert 5 3 (Go.Operand.tmp 73), type := 3, pos := "law.go:161", after := #[{ on := 12, ground := Go.Ground.data }], guard := none }) (v := ?_) rfl (by kernel_rfl) (by kernel_rfl) (by kernel_rfl) (by kernel_rfl) (by kernel_rfl) (by kernel_rfl) (fun _ _ _ h => h) (Or.inl ⟨by rfl, ?_⟩) (by assumption) ?_
        rotate_left
        (intro w hSw; (try dsimp only at hSw); go_simp; try (with_reducible rfl))
        try simp only [Act.put, List.setIfInBounds_toArray, List.set_cons_zero, List.set_cons_succ]
        refine wpAnyW_both (i := 8) (j := 14) (o := { dst := some 69, op := Go.Op.buildSlice 33 1 #[(0, Go.Operand.tmp 68)], type := 33, pos := "law.go:161", after := #[{ on := 7, ground := Go.Ground.data }], guard := none }) (p := { dst := some 75, op := Go.Op.buildSlice 33 1 #[(0, Go.Operand.tmp 74)], type := 33, pos := "law.go:161", after := #[{ on := 13, ground := Go.Ground.data }], guard := none }) (by kernel_rfl) (by kernel_rfl) (by kernel_rfl) (fun Kq hK => ?_) (fun Kq hK => ?_)
        · go_simp
          refine hK.out _ _ (KT.out _ (hHeld.1.alloc _)) (fun hH2 => ?_)
          clear hHeld hK Kq
          have hHeld := hH2
          clear hH2
          have OB := hid (heap_alloc_new x0 (.cells #[.int .i64 lb] 3))
          replace LA := hid (LA.out.tch ((Tch.refl [] x0).alloc (.cells #[.int .i64 lb] 3)))
          generalize x0.alloc (.cells #[.int .i64 lb] 3) = x1 at *
          generalize x0.heap.size = qb at *
          try simp only [Act.put, List.setIfInBounds_toArray, List.set_cons_zero, List.set_cons_succ]
          refine wpAnyW_both (i := 9) (j := 14) (o := { dst := some 70, op := Go.Op.call { callee := Go.Callee.builtin Go.Builtin.append, args := #[Go.Operand.tmp 62, Go.Operand.tmp 69], argTypes := #[33, 33] }, type := 33, pos := "law.go:161", after := #[{ on := 1, ground := Go.Ground.data }, { on := 8, ground := Go.Ground.data }], guard := none }) (p := { dst := some 75, op := Go.Op.buildSlice 33 1 #[(0, Go.Operand.tmp 74)], type := 33, pos := "law.go:161", after := #[{ on := 13, ground := Go.Ground.data }], guard := none }) (by kernel_rfl) (by kernel_rfl) (by kernel_rfl) (fun Kq hK => ?_) (fun Kq hK => ?_)
          · refine step_append_t rfl _ _ 33 rfl Tryd.underlying33 info_int rfl (by decide) (.slice a1 m c1) rfl (n := m) (by have h := LA.out.s1; rw [hn1] at h; exact h) ⟨qb, 0, none⟩ 1 1 rfl [.int .i64 lb] rfl (fun j u hj => by rw [Addr.add_lit, Nat.zero_add, cell_of_row _ _ j _ _ _ OB.out]; simpa using hj) (by simp [Value.oneCell']) (by omega) ?_
            intro v2 x2 sC tC dC oC
            obtain ⟨va1, vc1, hv2⟩ := sC.shape
            subst hv2
            refine hK.out _ _ (KT.out _ (hHeld.1.trans (tC.mono (fun k hk => List.mem_append.2 (.inl hk))))) (fun hH2 => ?_)
            clear hHeld hK Kq
            have hHeld := hH2
            clear hH2
            have LB := hid (LA.out.app1 (sl_app1I hn1 sC) tC oC)
            clear sC tC dC oC OB LA
            try simp only [Act.put, List.setIfInBounds_toArray, List.set_cons_zero, List.set_cons_succ]
            refine wpAnyW_take 20 (i := 16) (oi := { dst := some 77, op := Go.Op.fieldAddr 35 (Go.Operand.tmp 8) 1, type := 0, pos := "law.go:161", after := #[{ on := 0, ground := Go.Ground.phase }, { on := 1, ground := Go.Ground.phase }, { on := 2, ground := Go.Ground.phase }, { on := 3, ground := Go.Ground.phase }, { on := 4, ground := Go.Ground.phase }, { on := 5, ground := Go.Ground.phase }, { on := 6, ground := Go.Ground.phase }, { on := 7, ground := Go.Ground.phase }, { on := 8, ground := Go.Ground.phase }, { on := 9, ground := Go.Ground.phase }, { on := 10, ground := Go.Ground.phase }, { on := 11, ground := Go.Ground.phase }, { on := 12, ground := Go.Ground.textOnly Go.Departure.lateStores }, { on := 13, ground := Go.Ground.textOnly Go.Departure.lateStores }, { on := 14, ground := Go.Ground.textOnly Go.Departure.lateStores }, { on := 15, ground := Go.Ground.textOnly Go.Departure.lateStoresUnsure }], guard := none }) (v := ?_) rfl (by kernel_rfl) (by kernel_rfl) (by kernel_rfl) (by kernel_rfl) (by kernel_rfl) (by kernel_rfl) (fun _ _ _ h => h) (Or.inl ⟨by rfl, ?_⟩) (by assumption) ?_
            rotate_left
            (intro w hSw; (try dsimp only at hSw); go_simp; try (with_reducible rfl))
            try simp only [Act.put, List.setIfInBounds_toArray, List.set_cons_zero, List.set_cons_succ]
            refine wpAnyW_step (i := 14) (o := { dst := some 75, op := Go.Op.buildSlice 33 1 #[(0, Go.Operand.tmp 74)], type := 33, pos := "law.go:161", after := #[{ on := 13, ground := Go.Ground.data }], guard := none }) (by kernel_rfl) (by kernel_rfl) (fun Kq hK => ?_)
            go_simp
            refine hK.out _ _ (KT.out _ (hHeld.1.alloc _)) (fun hH2 => ?_)
            clear hHeld hK Kq
            have hHeld := hH2
            clear hH2
            have OC := hid (heap_alloc_new x2 (.cells #[.int .i64 av] 3))
            replace LB := hid (LB.out.tch ((Tch.refl [] x2).alloc (.cells #[.int .i64 av] 3)))
            generalize x2.alloc (.cells #[.int .i64 av] 3) = x3 at *
            generalize x2.heap.size = qc at *
            try simp only [Act.put, List.setIfInBounds_toArray, List.set_cons_zero, List.set_cons_succ]
            refine wpAnyW_step (i := 15) (o := { dst := some 76, op := Go.Op.call { callee := Go.Callee.builtin Go.Builtin.append, args := #[Go.Operand.tmp 72, Go.Operand.tmp 75], argTypes := #[33, 33] }, type := 33, pos := "law.go:161", after := #[{ on := 11, ground := Go.Ground.data }, { on := 14, ground := Go.Ground.data }, { on := 9, ground := Go.Ground.chain }], guard := none }) (by kernel_rfl) (by kernel_rfl) (fun Kq hK => ?_)
            refine step_append_t rfl _ _ 33 rfl Tryd.underlying33 info_int rfl (by decide) (.slice a2 m c2) rfl (n := m) (by have h := LB.out.s2; rw [hn2] at h; exact h) ⟨qc, 0, none⟩ 1 1 rfl [.int .i64 av] rfl (fun j u hj => by rw [Addr.add_lit, Nat.zero_add, cell_of_row _ _ j _ _ _ OC.out]; simpa using hj) (by simp [Value.oneCell']) (by omega) ?_
            intro v2 x4 sC tC dC oC
            obtain ⟨va2, vc2, hv2⟩ := sC.shape
            subst hv2
            refine hK.out _ _ (KT.out _ (hHeld.1.trans (tC.mono (fun k hk => List.mem_append.2 (.inr hk))))) (fun hH2 => ?_)
            clear hHeld hK Kq
            have hHeld := hH2
            clear hH2
            have LC := hid (LB.out.app2 (sl_app1I hn2 sC) tC oC)
            clear sC tC dC oC OC LB
            try simp only [Act.put, List.setIfInBounds_toArray, List.set_cons_zero, List.set_cons_succ]
            refine wpAnyW_free (i := 17) (o := { dst := none, op := Go.Op.store 33 (Go.Operand.tmp 77) (Go.Operand.tmp 70), type := 0, pos := "law.go:161", after := #[{ on := 16, ground := Go.Ground.data }, { on := 9, ground := Go.Ground.data }, { on := 15, ground := Go.Ground.chain }, { on := 0, ground := Go.Ground.phase }, { on := 1, ground := Go.Ground.phase }, { on := 2, ground := Go.Ground.phase }, { on := 3, ground := Go.Ground.phase }, { on := 4, ground := Go.Ground.phase }, { on := 5, ground := Go.Ground.phase }, { on := 6, ground := Go.Ground.phase }, { on := 7, ground := Go.Ground.phase }, { on := 8, ground := Go.Ground.phase }, { on := 9, ground := Go.Ground.phase }, { on := 10, ground := Go.Ground.phase }, { on := 11, ground := Go.Ground.phase }, { on := 12, ground := Go.Ground.textOnly Go.Departure.lateStores }, { on := 13, ground := Go.Ground.textOnly Go.Departure.lateStores }, { on := 14, ground := Go.Ground.textOnly Go.Departure.lateStores }, { on := 15, ground := Go.Ground.textOnly Go.Departure.lateStoresUnsure }], guard := none }) (by kernel_rfl) (by kernel_rfl) (by kernel_rfl) (fun Kq hK => ?_)
            obtain ⟨d1, fz1, lb1⟩ := LC.out.cell1
            go_simp
            refine hK.out _ _ ?_
            clear hK Kq
            try simp only [Act.put, List.setIfInBounds_toArray, List.set_cons_zero, List.set_cons_succ]
            have LD := hid (LC.out.put1 (.slice va1 (m + 1) vc1))
            clear d1 fz1 lb1 LC KT hHeld
            generalize World.setCell _ _ _ = y7 at LD ⊢
            refine wpAnyW_free (i := 18) (o := { dst := some 78, op := Go.Op.fieldAddr 35 (Go.Operand.tmp 8) 2, type := 0, pos := "law.go:161", after := #[{ on := 0, ground := Go.Ground.phase }, { on := 1, ground := Go.Ground.phase }, { on := 2, ground := Go.Ground.phase }, { on := 3, ground := Go.Ground.phase }, { on := 4, ground := Go.Ground.phase }, { on := 5, ground := Go.Ground.phase }, { on := 6, ground := Go.Ground.phase }, { on := 7, ground := Go.Ground.phase }, { on := 8, ground := Go.Ground.phase }, { on := 9, ground := Go.Ground.phase }, { on := 10, ground := Go.Ground.phase }, { on := 11, ground := Go.Ground.phase }, { on := 12, ground := Go.Ground.phase }, { on := 13, ground := Go.Ground.phase }, { on := 14, ground := Go.Ground.phase }, { on := 15, ground := Go.Ground.phase }, { on := 16, ground := Go.Ground.phase }, { on := 17, ground := Go.Ground.phase }], guard := none }) (by kernel_rfl) (by kernel_rfl) (by kernel_rfl) (fun Kq hK => ?_)
            go_simp
            refine hK.out _ _ ?_
            clear hK Kq
            try simp only [Act.put, List.setIfInBounds_toArray, List.set_cons_zero, List.set_cons_succ]
            refine wpAnyW_free (i := 19) (o := { dst := none, op := Go.Op.store 33 (Go.Operand.tmp 78) (Go.Operand.tmp 76), type := 0, pos := "law.go:161", after := #[{ on := 18, ground := Go.Ground.data }, { on := 15, ground := Go.Ground.data }, { on := 17, ground := Go.Ground.chain }, { on := 0, ground := Go.Ground.phase }, { on := 1, ground := Go.Ground.phase }, { on := 2, ground := Go.Ground.phase }, { on := 3, ground := Go.Ground.phase }, { on := 4, ground := Go.Ground.phase }, { on := 5, ground := Go.Ground.phase }, { on := 6, ground := Go.Ground.phase }, { on := 7, ground := Go.Ground.phase }, { on := 8, ground := Go.Ground.phase }, { on := 9, ground := Go.Ground.phase }, { on := 10, ground := Go.Ground.phase }, { on := 11, ground := Go.Ground.phase }, { on := 12, ground := Go.Ground.phase }, { on := 13, ground := Go.Ground.phase }, { on := 14, ground := Go.Ground.phase }, { on := 15, ground := Go.Ground.phase }, { on := 16, ground := Go.Ground.phase }, { on := 17, ground := Go.Ground.phase }], guard := none }) (by kernel_rfl) (by kernel_rfl) (by kernel_rfl) (fun Kq hK => ?_)
            obtain ⟨d1, fz1, lb1⟩ := LD.out.cell2
            go_simp
            refine hK.out _ _ ?_
            clear hK Kq
            try simp only [Act.put, List.setIfInBounds_toArray, List.set_cons_zero, List.set_cons_succ]
            have LE := hid (LD.out.put2 (.slice va2 (m + 1) vc2))
            clear d1 fz1 lb1 LD
            generalize World.setCell _ _ _ = y8 at LE ⊢
            refine wpAnyW_done (by kernel_rfl) (NoPanic.normal ?_) _
            rw [← HL1.out, ← HL2.out] at LE
            have HM2 : Hid (m + 1 = min (m + 1) bs.length) := hid (by omega)
            clear LZ
            go_wp2_with fail
            go_roundw
            case rel => exact ⟨m + 1, m + 1, va1, va2, vc1, vc2, by go_num, by omega, HM2.out, LE.out⟩
            case measure => simp [intOf]; omega
          · go_simp
            refine hK.out _ _ (KT.out _ (hHeld.1.alloc _)) (fun hH2 => ?_)
            clear hHeld hK Kq
            have hHeld := hH2
            clear hH2
            have NC : Hid (∀ k ∈ blks (.slice a1 m c1), ¬ k = x1.heap.size) := hid (fun k hk e => by have := LA.out.s1.lt k hk; omega)
            replace OB := hid (((Tch.refl [] x1).alloc (.cells #[.int .i64 av] 3)).obj OB.out (by simp))
            have OC := hid (heap_alloc_new x1 (.cells #[.int .i64 av] 3))
            replace LA := hid (LA.out.tch ((Tch.refl [] x1).alloc (.cells #[.int .i64 av] 3)))
            generalize x1.alloc (.cells #[.int .i64 av] 3) = x2 at *
            generalize x1.heap.size = qc at *
            try simp only [Act.put, List.setIfInBounds_toArray, List.set_cons_zero, List.set_cons_succ]
            refine wpAnyW_step (i := 9) (o := { dst := some 70, op := Go.Op.call { callee := Go.Callee.builtin Go.Builtin.append, args := #[Go.Operand.tmp 62, Go.Operand.tmp 69], argTypes := #[33, 33] }, type := 33, pos := "law.go:161", after := #[{ on := 1, ground := Go.Ground.data }, { on := 8, ground := Go.Ground.data }], guard := none }) (by kernel_rfl) (by kernel_rfl) (fun Kq hK => ?_)
            refine step_append_t rfl _ _ 33 rfl Tryd.underlying33 info_int rfl (by decide) (.slice a1 m c1) rfl (n := m) (by have h := LA.out.s1; rw [hn1] at h; exact h) ⟨qb, 0, none⟩ 1 1 rfl [.int .i64 lb] rfl (fun j u hj => by rw [Addr.add_lit, Nat.zero_add, cell_of_row _ _ j _ _ _ OB.out]; simpa using hj) (by simp [Value.oneCell']) (by omega) ?_
            intro v2 x3 sC tC dC oC
            obtain ⟨va1, vc1, hv2⟩ := sC.shape
            subst hv2
            refine hK.out _ _ (KT.out _ (hHeld.1.trans (tC.mono (fun k hk => List.mem_append.2 (.inl hk))))) (fun hH2 => ?_)
            clear hHeld hK Kq
            have hHeld := hH2
            clear hH2
            replace OC := hid (tC.obj OC.out (fun h => NC.out _ h rfl))
            clear NC
            have LB := hid (LA.out.app1 (sl_app1I hn1 sC) tC oC)
            clear sC tC dC oC OB LA
            try simp only [Act.put, List.setIfInBounds_toArray, List.set_cons_zero, List.set_cons_succ]
            refine wpAnyW_take 20 (i := 16) (oi := { dst := some 77, op := Go.Op.fieldAddr 35 (Go.Operand.tmp 8) 1, type := 0, pos := "law.go:161", after := #[{ on := 0, ground := Go.Ground.phase }, { on := 1, ground := Go.Ground.phase }, { on := 2, ground := Go.Ground.phase }, { on := 3, ground := Go.Ground.phase }, { on := 4, ground := Go.Ground.phase }, { on := 5, ground := Go.Ground.phase }, { on := 6, ground := Go.Ground.phase }, { on := 7, ground := Go.Ground.phase }, { on := 8, ground := Go.Ground.phase }, { on := 9, ground := Go.Ground.phase }, { on := 10, ground := Go.Ground.phase }, { on := 11, ground := Go.Ground.phase }, { on := 12, ground := Go.Ground.textOnly Go.Departure.lateStores }, { on := 13, ground := Go.Ground.textOnly Go.Departure.lateStores }, { on := 14, ground := Go.Ground.textOnly Go.Departure.lateStores }, { on := 15, ground := Go.Ground.textOnly Go.Departure.lateStoresUnsure }], guard := none }) (v := ?_) rfl (by kernel_rfl) (by kernel_rfl) (by kernel_rfl) (by kernel_rfl) (by kernel_rfl) (by kernel_rfl) (fun _ _ _ h => h) (Or.inl ⟨by rfl, ?_⟩) (by assumption) ?_
            rotate_left
            (intro w hSw; (try dsimp only at hSw); go_simp; try (with_reducible rfl))
            try simp only [Act.put, List.setIfInBounds_toArray, List.set_cons_zero, List.set_cons_succ]
            refine wpAnyW_step (i := 15) (o := { dst := some 76, op := Go.Op.call { callee := Go.Callee.builtin Go.Builtin.append, args := #[Go.Operand.tmp 72, Go.Operand.tmp 75], argTypes := #[33, 33] }, type := 33, pos := "law.go:161", after := #[{ on := 11, ground := Go.Ground.data }, { on := 14, ground := Go.Ground.data }, { on := 9, ground := Go.Ground.chain }], guard := none }) (by kernel_rfl) (by kernel_rfl) (fun Kq hK => ?_)
            refine step_append_t rfl _ _ 33 rfl Tryd.underlying33 info_int rfl (by decide) (.slice a2 m c2) rfl (n := m) (by have h := LB.out.s2; rw [hn2] at h; exact h) ⟨qc, 0, none⟩ 1 1 rfl [.int .i64 av] rfl (fun j u hj => by rw [Addr.add_lit, Nat.zero_add, cell_of_row _ _ j _ _ _ OC.out]; simpa using hj) (by simp [Value.oneCell']) (by omega) ?_
            intro v2 x4 sC tC dC oC
            obtain ⟨va2, vc2, hv2⟩ := sC.shape
            subst hv2
            refine hK.out _ _ (KT.out _ (hHeld.1.trans (tC.mono (fun k hk => List.mem_append.2 (.inr hk))))) (fun hH2 => ?_)
            clear hHeld hK Kq
            have hHeld := hH2
            clear hH2
            have LC := hid (LB.out.app2 (sl_app1I hn2 sC) tC oC)
            clear sC tC dC oC OC LB
            try simp only [Act.put, List.setIfInBounds_toArray, List.set_cons_zero, List.set_cons_succ]
            refine wpAnyW_free (i := 17) (o := { dst := none, op := Go.Op.store 33 (Go.Operand.tmp 77) (Go.Operand.tmp 70), type := 0, pos := "law.go:161", after := #[{ on := 16, ground := Go.Ground.data }, { on := 9, ground := Go.Ground.data }, { on := 15, ground := Go.Ground.chain }, { on := 0, ground := Go.Ground.phase }, { on := 1, ground := Go.Ground.phase }, { on := 2, ground := Go.Ground.phase }, { on := 3, ground := Go.Ground.phase }, { on := 4, ground := Go.Ground.phase }, { on := 5, ground := Go.Ground.phase }, { on := 6, ground := Go.Ground.phase }, { on := 7, ground := Go.Ground.phase }, { on := 8, ground := Go.Ground.phase }, { on := 9, ground := Go.Ground.phase }, { on := 10, ground := Go.Ground.phase }, { on := 11, ground := Go.Ground.phase }, { on := 12, ground := Go.Ground.textOnly Go.Departure.lateStores }, { on := 13, ground := Go.Ground.textOnly Go.Departure.lateStores }, { on := 14, ground := Go.Ground.textOnly Go.Departure.lateStores }, { on := 15, ground := Go.Ground.textOnly Go.Departure.lateStoresUnsure }], guard := none }) (by kernel_rfl) (by kernel_rfl) (by kernel_rfl) (fun Kq hK => ?_)
            obtain ⟨d1, fz1, lb1⟩ := LC.out.cell1
            go_simp
            refine hK.out _ _ ?_
            clear hK Kq
            try simp only [Act.put, List.setIfInBounds_toArray, List.set_cons_zero, List.set_cons_succ]
            have LD := hid (LC.out.put1 (.slice va1 (m + 1) vc1))
            clear d1 fz1 lb1 LC KT hHeld
            generalize World.setCell _ _ _ = y7 at LD ⊢
            refine wpAnyW_free (i := 18) (o := { dst := some 78, op := Go.Op.fieldAddr 35 (Go.Operand.tmp 8) 2, type := 0, pos := "law.go:161", after := #[{ on := 0, ground := Go.Ground.phase }, { on := 1, ground := Go.Ground.phase }, { on := 2, ground := Go.Ground.phase }, { on := 3, ground := Go.Ground.phase }, { on := 4, ground := Go.Ground.phase }, { on := 5, ground := Go.Ground.phase }, { on := 6, ground := Go.Ground.phase }, { on := 7, ground := Go.Ground.phase }, { on := 8, ground := Go.Ground.phase }, { on := 9, ground := Go.Ground.phase }, { on := 10, ground := Go.Ground.phase }, { on := 11, ground := Go.Ground.phase }, { on := 12, ground := Go.Ground.phase }, { on := 13, ground := Go.Ground.phase }, { on := 14, ground := Go.Ground.phase }, { on := 15, ground := Go.Ground.phase }, { on := 16, ground := Go.Ground.phase }, { on := 17, ground := Go.Ground.phase }], guard := none }) (by kernel_rfl) (by kernel_rfl) (by kernel_rfl) (fun Kq hK => ?_)
            go_simp
            refine hK.out _ _ ?_
            clear hK Kq
            try simp only [Act.put, List.setIfInBounds_toArray, List.set_cons_zero, List.set_cons_succ]
            refine wpAnyW_free (i := 19) (o := { dst := none, op := Go.Op.store 33 (Go.Operand.tmp 78) (Go.Operand.tmp 76), type := 0, pos := "law.go:161", after := #[{ on := 18, ground := Go.Ground.data }, { on := 15, ground := Go.Ground.data }, { on := 17, ground := Go.Ground.chain }, { on := 0, ground := Go.Ground.phase }, { on := 1, ground := Go.Ground.phase }, { on := 2, ground := Go.Ground.phase }, { on := 3, ground := Go.Ground.phase }, { on := 4, ground := Go.Ground.phase }, { on := 5, ground := Go.Ground.phase }, { on := 6, ground := Go.Ground.phase }, { on := 7, ground := Go.Ground.phase }, { on := 8, ground := Go.Ground.phase }, { on := 9, ground := Go.Ground.phase }, { on := 10, ground := Go.Ground.phase }, { on := 11, ground := Go.Ground.phase }, { on := 12, ground := Go.Ground.phase }, { on := 13, ground := Go.Ground.phase }, { on := 14, ground := Go.Ground.phase }, { on := 15, ground := Go.Ground.phase }, { on := 16, ground := Go.Ground.phase }, { on := 17, ground := Go.Ground.phase }], guard := none }) (by kernel_rfl) (by kernel_rfl) (by kernel_rfl) (fun Kq hK => ?_)
            obtain ⟨d1, fz1, lb1⟩ := LD.out.cell2
            go_simp
            refine hK.out _ _ ?_
            clear hK Kq
            try simp only [Act.put, List.setIfInBounds_toArray, List.set_cons_zero, List.set_cons_succ]
            have LE := hid (LD.out.put2 (.slice va2 (m + 1) vc2))
            clear d1 fz1 lb1 LD
            generalize World.setCell _ _ _ = y8 at LE ⊢
            refine wpAnyW_done (by kernel_rfl) (NoPanic.normal ?_) _
            rw [← HL1.out, ← HL2.out] at LE
            have HM2 : Hid (m + 1 = min (m + 1) bs.length) := hid (by omega)
            clear LZ
            go_wp2_with fail
            go_roundw
            case rel => exact ⟨m + 1, m + 1, va1, va2, vc1, vc2, by go_num, by omega, HM2.out, LE.out⟩
            case measure => simp [intOf]; omega
        · go_simp
          refine hK.out _ _ (KT.out _ (hHeld.1.alloc _)) (fun hH2 => ?_)
          clear hHeld hK Kq
          have hHeld := hH2
          clear hH2
          have NC : Hid (∀ k ∈ blks (.slice a1 m c1), ¬ k = x0.heap.size) := hid (fun k hk e => by have := LA.out.s1.lt k hk; omega)
          have OC := hid (heap_alloc_new x0 (.cells #[.int .i64 av] 3))
          replace LA := hid (LA.out.tch ((Tch.refl [] x0).alloc (.cells #[.int .i64 av] 3)))
          generalize x0.alloc (.cells #[.int .i64 av] 3) = x1 at *
          generalize x0.heap.size = qc at *
          try simp only [Act.put, List.setIfInBounds_toArray, List.set_cons_zero, List.set_cons_succ]
          refine wpAnyW_step (i := 8) (o := { dst := some 69, op := Go.Op.buildSlice 33 1 #[(0, Go.Operand.tmp 68)], type := 33, pos := "law.go:161", after := #[{ on := 7, ground := Go.Ground.data }], guard := none }) (by kernel_rfl) (by kernel_rfl) (fun Kq hK => ?_)
          go_simp
          refine hK.out _ _ (KT.out _ (hHeld.1.alloc _)) (fun hH2 => ?_)
          clear hHeld hK Kq
          have hHeld := hH2
          clear hH2
          replace OC := hid (((Tch.refl [] x1).alloc (.cells #[.int .i64 lb] 3)).obj OC.out (by simp))
          have OB := hid (heap_alloc_new x1 (.cells #[.int .i64 lb] 3))
          replace LA := hid (LA.out.tch ((Tch.refl [] x1).alloc (.cells #[.int .i64 lb] 3)))
          generalize x1.alloc (.cells #[.int .i64 lb] 3) = x2 at *
          generalize x1.heap.size = qb at *
          try simp only [Act.put, List.setIfInBounds_toArray, List.set_cons_zero, List.set_cons_succ]
          refine wpAnyW_step (i := 9) (o := { dst := some 70, op := Go.Op.call { callee := Go.Callee.builtin Go.Builtin.append, args := #[Go.Operand.tmp 62, Go.Operand.tmp 69], argTypes := #[33, 33] }, type := 33, pos := "law.go:161", after := #[{ on := 1, ground := Go.Ground.data }, { on := 8, ground := Go.Ground.data }], guard := none }) (by kernel_rfl) (by kernel_rfl) (fun Kq hK => ?_)
          refine step_append_t rfl _ _ 33 rfl Tryd.underlying33 info_int rfl (by decide) (.slice a1 m c1) rfl (n := m) (by have h := LA.out.s1; rw [hn1] at h; exact h) ⟨qb, 0, none⟩ 1 1 rfl [.int .i64 lb] rfl (fun j u hj => by rw [Addr.add_lit, Nat.zero_add, cell_of_row _ _ j _ _ _ OB.out]; simpa using hj) (by simp [Value.oneCell']) (by omega) ?_
          intro v2 x3 sC tC dC oC
          obtain ⟨va1, vc1, hv2⟩ := sC.shape
          subst hv2
          refine hK.out _ _ (KT.out _ (hHeld.1.trans (tC.mono (fun k hk => List.mem_append.2 (.inl hk))))) (fun hH2 => ?_)
          clear hHeld hK Kq
          have hHeld := hH2
          clear hH2
          replace OC := hid (tC.obj OC.out (fun h => NC.out _ h rfl))
          clear NC
          have LB := hid (LA.out.app1 (sl_app1I hn1 sC) tC oC)
          clear sC tC dC oC OB LA
          try simp only [Act.put, List.setIfInBounds_toArray, List.set_cons_zero, List.set_cons_succ]
          refine wpAnyW_take 20 (i := 16) (oi := { dst := some 77, op := Go.Op.fieldAddr 35 (Go.Operand.tmp 8) 1, type := 0, pos := "law.go:161", after := #[{ on := 0, ground := Go.Ground.phase }, { on := 1, ground := Go.Ground.phase }, { on := 2, ground := Go.Ground.phase }, { on := 3, ground := Go.Ground.phase }, { on := 4, ground := Go.Ground.phase }, { on := 5, ground := Go.Ground.phase }, { on := 6, ground := Go.Ground.phase }, { on := 7, ground := Go.Ground.phase }, { on := 8, ground := Go.Ground.phase }, { on := 9, ground := Go.Ground.phase }, { on := 10, ground := Go.Ground.phase }, { on := 11, ground := Go.Ground.phase }, { on := 12, ground := Go.Ground.textOnly Go.Departure.lateStores }, { on := 13, ground := Go.Ground.textOnly Go.Departure.lateStores }, { on := 14, ground := Go.Ground.textOnly Go.Departure.lateStores }, { on := 15, ground := Go.Ground.textOnly Go.Departure.lateStoresUnsure }], guard := none }) (v := ?_) rfl (by kernel_rfl) (by kernel_rfl) (by kernel_rfl) (by kernel_rfl) (by kernel_rfl) (by kernel_rfl) (fun _ _ _ h => h) (Or.inl ⟨by rfl, ?_⟩) (by assumption) ?_
          rotate_left
          (intro w hSw; (try dsimp only at hSw); go_simp; try (with_reducible rfl))
          try simp only [Act.put, List.setIfInBounds_toArray, List.set_cons_zero, List.set_cons_succ]
          refine wpAnyW_step (i := 15) (o := { dst := some 76, op := Go.Op.call { callee := Go.Callee.builtin Go.Builtin.append, args := #[Go.Operand.tmp 72, Go.Operand.tmp 75], argTypes := #[33, 33] }, type := 33, pos := "law.go:161", after := #[{ on := 11, ground := Go.Ground.data }, { on := 14, ground := Go.Ground.data }, { on := 9, ground := Go.Ground.chain }], guard := none }) (by kernel_rfl) (by kernel_rfl) (fun Kq hK => ?_)
          refine step_append_t rfl _ _ 33 rfl Tryd.underlying33 info_int rfl (by decide) (.slice a2 m c2) rfl (n := m) (by have h := LB.out.s2; rw [hn2] at h; exact h) ⟨qc, 0, none⟩ 1 1 rfl [.int .i64 av] rfl (fun j u hj => by rw [Addr.add_lit, Nat.zero_add, cell_of_row _ _ j _ _ _ OC.out]; simpa using hj) (by simp [Value.oneCell']) (by omega) ?_
          intro v2 x4 sC tC dC oC
          obtain ⟨va2, vc2, hv2⟩ := sC.shape
          subst hv2
          refine hK.out _ _ (KT.out _ (hHeld.1.trans (tC.mono (fun k hk => List.mem_append.2 (.inr hk))))) (fun hH2 => ?_)
          clear hHeld hK Kq
          have hHeld := hH2
          clear hH2
          have LC := hid (LB.out.app2 (sl_app1I hn2 sC) tC oC)
          clear sC tC dC oC OC LB
          try simp only [Act.put, List.setIfInBounds_toArray, List.set_cons_zero, List.set_cons_succ]
          refine wpAnyW_free (i := 17) (o := { dst := none, op := Go.Op.store 33 (Go.Operand.tmp 77) (Go.Operand.tmp 70), type := 0, pos := "law.go:161", after := #[{ on := 16, ground := Go.Ground.data }, { on := 9, ground := Go.Ground.data }, { on := 15, ground := Go.Ground.chain }, { on := 0, ground := Go.Ground.phase }, { on := 1, ground := Go.Ground.phase }, { on := 2, ground := Go.Ground.phase }, { on := 3, ground := Go.Ground.phase }, { on := 4, ground := Go.Ground.phase }, { on := 5, ground := Go.Ground.phase }, { on := 6, ground := Go.Ground.phase }, { on := 7, ground := Go.Ground.phase }, { on := 8, ground := Go.Ground.phase }, { on := 9, ground := Go.Ground.phase }, { on := 10, ground := Go.Ground.phase }, { on := 11, ground := Go.Ground.phase }, { on := 12, ground := Go.Ground.textOnly Go.Departure.lateStores }, { on := 13, ground := Go.Ground.textOnly Go.Departure.lateStores }, { on := 14, ground := Go.Ground.textOnly Go.Departure.lateStores }, { on := 15, ground := Go.Ground.textOnly Go.Departure.lateStoresUnsure }], guard := none }) (by kernel_rfl) (by kernel_rfl) (by kernel_rfl) (fun Kq hK => ?_)
          obtain ⟨d1, fz1, lb1⟩ := LC.out.cell1
          go_simp
          refine hK.out _ _ ?_
          clear hK Kq
          try simp only [Act.put, List.setIfInBounds_toArray, List.set_cons_zero, List.set_cons_succ]
          have LD := hid (LC.out.put1 (.slice va1 (m + 1) vc1))
          clear d1 fz1 lb1 LC KT hHeld
          generalize World.setCell _ _ _ = y7 at LD ⊢
          refine wpAnyW_free (i := 18) (o := { dst := some 78, op := Go.Op.fieldAddr 35 (Go.Operand.tmp 8) 2, type := 0, pos := "law.go:161", after := #[{ on := 0, ground := Go.Ground.phase }, { on := 1, ground := Go.Ground.phase }, { on := 2, ground := Go.Ground.phase }, { on := 3, ground := Go.Ground.phase }, { on := 4, ground := Go.Ground.phase }, { on := 5, ground := Go.Ground.phase }, { on := 6, ground := Go.Ground.phase }, { on := 7, ground := Go.Ground.phase }, { on := 8, ground := Go.Ground.phase }, { on := 9, ground := Go.Ground.phase }, { on := 10, ground := Go.Ground.phase }, { on := 11, ground := Go.Ground.phase }, { on := 12, ground := Go.Ground.phase }, { on := 13, ground := Go.Ground.phase }, { on := 14, ground := Go.Ground.phase }, { on := 15, ground := Go.Ground.phase }, { on := 16, ground := Go.Ground.phase }, { on := 17, ground := Go.Ground.phase }], guard := none }) (by kernel_rfl) (by kernel_rfl) (by kernel_rfl) (fun Kq hK => ?_)
          go_simp
          refine hK.out _ _ ?_
          clear hK Kq
          try simp only [Act.put, List.setIfInBounds_toArray, List.set_cons_zero, List.set_cons_succ]
          refine wpAnyW_free (i := 19) (o := { dst := none, op := Go.Op.store 33 (Go.Operand.tmp 78) (Go.Operand.tmp 76), type := 0, pos := "law.go:161", after := #[{ on := 18, ground := Go.Ground.data }, { on := 15, ground := Go.Ground.data }, { on := 17, ground := Go.Ground.chain }, { on := 0, ground := Go.Ground.phase }, { on := 1, ground := Go.Ground.phase }, { on := 2, ground := Go.Ground.phase }, { on := 3, ground := Go.Ground.phase }, { on := 4, ground := Go.Ground.phase }, { on := 5, ground := Go.Ground.phase }, { on := 6, ground := Go.Ground.phase }, { on := 7, ground := Go.Ground.phase }, { on := 8, ground := Go.Ground.phase }, { on := 9, ground := Go.Ground.phase }, { on := 10, ground := Go.Ground.phase }, { on := 11, ground := Go.Ground.phase }, { on := 12, ground := Go.Ground.phase }, { on := 13, ground := Go.Ground.phase }, { on := 14, ground := Go.Ground.phase }, { on := 15, ground := Go.Ground.phase }, { on := 16, ground := Go.Ground.phase }, { on := 17, ground := Go.Ground.phase }], guard := none }) (by kernel_rfl) (by kernel_rfl) (by kernel_rfl) (fun Kq hK => ?_)
          obtain ⟨d1, fz1, lb1⟩ := LD.out.cell2
          go_simp
          refine hK.out _ _ ?_
          clear hK Kq
          try simp only [Act.put, List.setIfInBounds_toArray, List.set_cons_zero, List.set_cons_succ]
          have LE := hid (LD.out.put2 (.slice va2 (m + 1) vc2))
          clear d1 fz1 lb1 LD
          generalize World.setCell _ _ _ = y8 at LE ⊢
          refine wpAnyW_done (by kernel_rfl) (NoPanic.normal ?_) _
          rw [← HL1.out, ← HL2.out] at LE
          have HM2 : Hid (m + 1 = min (m + 1) bs.length) := hid (by omega)
          clear LZ
          go_wp2_with fail
          go_roundw
          case rel => exact ⟨m + 1, m + 1, va1, va2, vc1, vc2, by go_num, by omega, HM2.out, LE.out⟩
          case measure => simp [intOf]; omega
      · have hkI : ¬ (k : Int) < (bs.length : Int) := by omega
        have e1 : (labsOf bs).take (k + 1) = (labsOf bs).take k := by rw [List.take_of_length_le (by simp [labsOf]; omega), List.take_of_length_le (by simp [labsOf]; omega)]
        have HF2 : Hid (Fm w6 wr b8 0 (.slice a1 m c1) (.slice a2 m c2) (.slice a1 m c1) (.slice a2 m c2) ((labsOf bs).take (k + 1)) (l.take m)) := by rw [e1]; exact HF.out
        have HM2 : Hid (m = min (k + 1) bs.length) := hid (by have := HM.out; omega)
        clear HF e1
        go_wp2_with fail
        go_roundw
        case rel =>
          exact ⟨k + 1, m, a1, a2, c1, c2, by go_num, by omega, HM2.out, HF2.out⟩
        case measure => simp [intOf]; omega
    · obtain rfl : k = l.length := by omega
      obtain ⟨FR, hFR⟩ : ∃ q, (labsOf bs).take l.length = q := ⟨_, rfl⟩
      obtain ⟨AR, hAR⟩ : ∃ q, l.take m = q := ⟨_, rfl⟩
      have hlbs : (labsOf bs).length = bs.length := by simp [labsOf]
      have FQ : Hid (FR.length = m ∧ AR.length = m ∧ (∀ x ∈ FR, x ∈ labsOf bs) ∧ FR.Nodup ∧ (∀ r ∈ AR, 0 ≤ r ∧ r ≤ 255) ∧ m ≤ 8) := hid (by
        have hm := HM.out
        refine ⟨by rw [← hFR, List.length_take, hlbs]; omega, by rw [← hAR, List.length_take]; omega, fun x hx => by rw [← hFR] at hx; exact List.mem_of_mem_take hx, ?_, fun r hr => by rw [← hAR] at hr; exact HB.out r (List.mem_of_mem_take hr), by omega⟩
        rw [← hFR, P1.out.l]
        exact (progL_nodup s).sublist (List.take_sublist _ _))
      rw [hFR, hAR] at HF
      clear hFR hAR hlbs HM
      rename World => wr
      have c0 := cell_of_row _ _ 0 _ _ _ HF.out.o
      simp only [List.getElem?_toArray, List.getElem?_cons_zero] at c0
      have f0 := frozen_of_row _ _ 0 _ _ HF.out.o
      have l0 := lt_of_obj HF.out.o
      have ewd : IntKind.i64.wrap d = d := by have := HDD.out; rw [IntKind.wrap_i64]; omega
      go_upto_region 16 with fail
      have LF := hid (HF.out.put0 d)
      clear c0 f0 l0 HF
      generalize wr.setCell ⟨b8, 0, none⟩ (.int .i64 d) = w9 at *
      have hm8 := FQ.out.2.2.2.2.2
      have HSO := hid (sorted_any _ FR w9 LF.out.s1 (by have := FQ.out.1; omega))
      have c1 := LF.out.cell1.1
      have l1 := LF.out.cell1.2.2
      go_upto_region 17 with (go_at_call 9; refine HSO.out.mono ?_; rintro r w10 hS; obtain ⟨sb, rfl, hsb, t10⟩ := hS; have HSB := hid hsb; have T910 := hid t10; clear hsb t10)
      have LF10 := hid (LF.out.tch T910.out)
      clear c1 l1 HSO LF T910
      have c7 := tch_val LF10.out.g (show w6.cell? ⟨b7, 0, none⟩ = some (.slice (some ⟨pb, po, none⟩) bs.length pc) by have := cell_of_row _ _ 0 _ _ _ O76.out; simpa using this) (by simp)
      have l7 := cell_lt c7
      simp only at l7
      have HCL := hid (cloneP_ptr _ bs hbl.1 (by omega) w10 (PO6.out.tchT LF10.out.g) (fun B hB => by
        obtain ⟨e1, e2⟩ := HNP.out B hB
        have h3 := (P1.out.g B hB).m
        have h4 : B.ins.length ≤ 16 := h3
        exact ⟨by omega, by rw [e2]; simp, fun x hx => by rw [e2] at hx; simp at hx⟩))
      go_upto_region 18 with (go_at_call 10; refine HCL.out.mono ?_; rintro r w11 ⟨cb, co, cc, C0, rest, rfl, own, hpd, g11⟩; have OW := hid own; have HPD := hid hpd; have T11 := hid g11.tch; clear own hpd g11)
      clear c7 l7 HCL
      have t12 : Tch [] w11 (w11.alloc (.cells #[.slice (some ⟨cb, co, none⟩) bs.length cc] 29)) := (Tch.refl [] w11).alloc _
      have o12 := heap_alloc_new w11 (.cells #[.slice (some ⟨cb, co, none⟩) bs.length cc] 29)
      have LF12 := hid ((LF10.out.tch T11.out).tch t12)
      have OW12 := hid (OW.out.tch t12)
      have HLO : Hid (w6.heap.size ≤ w10.heap.size) := LF10.out.g.size
      clear T11 LF10 OW
      generalize w11.alloc (.cells #[.slice (some ⟨cb, co, none⟩) bs.length cc] 29) = w12 at *
      generalize w11.heap.size = b12 at *
      have O12 := hid o12
      clear t12 o12
      have e12 := cell_of_row _ _ 0 _ _ _ O12.out
      have f0 := cell_of_row _ _ 0 _ _ _ LF12.out.o
      have f1 := cell_of_row _ _ 1 _ _ _ LF12.out.o
      have f2 := cell_of_row _ _ 2 _ _ _ LF12.out.o
      simp only [List.getElem?_toArray, List.getElem?_cons_zero, List.getElem?_cons_succ] at e12 f0 f1 f2
      have l12 := lt_of_obj O12.out
      have l8 := lt_of_obj LF12.out.o
      have sc := OW12.out.s
      rw [show bs.length = (C0 :: rest).length by have := pd_len HPD.out; omega] at sc
      obtain ⟨_, g1, _⟩ := blk_at sc 0 (x := C0) (by simp)
      have fzc : ∀ j, w12.frozen? ⟨cb, j, none⟩ = false := sc.cell.2.2.1
      have lcb := sc.cell.2.2.2
      have hb0 : (0 : Int) < (bs.length : Int) := by omega
      rw [show co + 0 * 7 + 1 = co + 1 by omega] at g1
      clear sc
      go_upto_region 19 with fail
      have hm1 := FQ.out.1
      have hm2 := FQ.out.2.1
      have hfk : PhiOk w12 ⟨d, .slice a1 m c1, FR, .slice a2 m c2, AR⟩ := ⟨LF12.out.s1, LF12.out.s2⟩
      obtain ⟨pq, pf, tq, hcbl, cur, hcur⟩ := own_put (f := ⟨d, .slice a1 m c1, FR, .slice a2 m c2, AR⟩) OW12.out hfk rfl rfl rfl
      generalize (w12.setCell ⟨cb, co + 1, none⟩ (.slice (some ⟨w12.heap.size, 0, none⟩) 1 1)).alloc (.cells #[.int .i64 d, .slice a1 m c1, .slice a2 m c2] 35) = w13 at *
      generalize w12.heap.size = pB at pq
      obtain ⟨f, hf⟩ : ∃ f : PhiM, (⟨d, .slice a1 m c1, FR, .slice a2 m c2, AR⟩ : PhiM) = f := ⟨_, rfl⟩
      obtain ⟨Q0, hQ0⟩ : ∃ Q : BlkM, ({ C0 with pv := .slice (some ⟨pB, 0, none⟩) 1 1, phis := [⟨d, .slice a1 m c1, FR, .slice a2 m c2, AR⟩] } : BlkM) = Q := ⟨_, rfl⟩
      have HF1 : Hid (f.d = d ∧ f.fv = .slice a1 m c1 ∧ f.frm = FR ∧ f.av = .slice a2 m c2 ∧ f.arg = AR) := hid (by rw [← hf]; exact ⟨rfl, rfl, rfl, rfl, rfl⟩)
      have HQ1 : Hid (Q0.phis = [f] ∧ Q0.ab = C0.ab ∧ Q0.ins = C0.ins ∧ Q0.pv = .slice (some ⟨pB, 0, none⟩) 1 1) := hid (by rw [← hQ0, ← hf]; exact ⟨rfl, rfl, rfl, rfl⟩)
      rw [hQ0] at pq
      rw [hf] at pf
      clear hf hQ0
      have PQ := hid pq
      have PF := hid pf
      have TQ0 := hid (LF12.out.g.trans2 tq (fun k hk => .inr (by simp at hk; subst hk; have := HLO.out; omega)))
      have PP := hid (PO6.out.tchT TQ0.out)
      have OQ8 : Hid (w13.heap[b8]? = some (.cells #[.int .i64 d, .slice a1 m c1, .slice a2 m c2] 35 (0, 0))) := hid (tq.obj LF12.out.o (fun e => by
        simp at e; subst e
        have h3 := LF12.out.o
        rw [hcur] at h3
        have h4 := Option.some.inj h3
        have h5 : (42 : TypeId) = 35 := by injection h4
        exact absurd h5 (by decide)))
      have OQ12 : Hid (w13.heap[b12]? = some (.cells #[.slice (some ⟨cb, co, none⟩) bs.length cc] 29 (0, 0))) := hid (tq.obj O12.out (fun e => by
        simp at e; subst e
        have h3 := O12.out
        rw [hcur] at h3
        have h4 := Option.some.inj h3
        have h5 : (42 : TypeId) = 29 := by injection h4
        exact absurd h5 (by decide)))
      have OQ7 := hid (TQ0.out.obj O76.out (by simp))
      have RBQ := hid (TQ0.out.obj RB.out (by simp))
      have GQ := hid (G6.out.trans TQ0.out)
      have hrest : ∀ B ∈ rest, B.phis = [] := fun B hB => pd_phis HPD.out (fun C hC => (HNP.out C hC).2) B (by simp [hB])
      have hqab : (Q0 :: rest).map BlkM.ab = bs.map BlkM.ab := by
        have := pd_ab HPD.out
        rw [List.map_cons] at this ⊢
        rw [HQ1.out.2.1]; exact this
      have CQ := hid (check_q HL8.out.2 P1.out rfl hqab HQ1.out.1 hrest (by rw [HF1.out.2.2.1, HF1.out.2.2.2.2]; omega) (by rw [HF1.out.1]; have := HDD.out; unfold regB; simp; omega) (by rw [HF1.out.2.2.1]; exact FQ.out.2.2.1) (by rw [HF1.out.2.2.2.2]; intro r hr; have := FQ.out.2.2.2.2.1 r hr; unfold regB; simp; omega) (by rw [HF1.out.2.2.1]; exact FQ.out.2.2.2.1))
      have HRS := hid hrest
      have HAB2 := hid hqab
      have hql : (Q0 :: rest).length = bs.length := by have := pd_len HPD.out; simpa using this
      obtain ⟨qs, hqs⟩ : ∃ q, Q0 :: rest = q := ⟨_, rfl⟩
      have HQS := hid hqs.symm
      rw [hqs] at PQ CQ HAB2 hql
      clear hqs hrest hqab tq pq pf hfk hcbl hcur e12 f0 f1 f2 l12 l8 g1 fzc lcb hb0 LF12 OW12 O12 TQ0 G6 RB O76 PO6 cur hm1 hm2 hm8
      have HGD : Hid (∀ B ∈ qs, Good (progL s) B.ab) := hid (fun B hB => by
        have h2 : B.ab ∈ bs.map BlkM.ab := by rw [← HAB2.out]; exact List.mem_map.2 ⟨B, hB, rfl⟩
        obtain ⟨C, hC, e⟩ := List.mem_map.1 h2
        rw [← e]; exact P1.out.g C hC)
      have HSM : Hid (∀ B ∈ qs, ∀ r ∈ blkS B, Sm r) := hid (fun B hB r hr => good_sm (B := { B with phis := [] }) rfl (HGD.out B hB) r (by rw [blkS_mem]; exact .inr hr))
      have HPH : Hid (∀ B ∈ qs, B.phis.length ≤ 1) := hid (fun B hB => by
        rw [HQS.out] at hB
        rcases List.mem_cons.1 hB with rfl | hB
        · rw [HQ1.out.1]; simp
        · rw [HRS.out B hB]; simp)
      have HCM : Hid (countM qs ≤ 200) := hid (by have := CQ.out.2.1; have := P1.out.count HL8.out.2; omega)
      go_upto_region 22 with fail
      have tA : Tch [] w13 (w13.alloc (.cells #[.int .i64 0] 3)) := (Tch.refl [] w13).alloc _
      have oA := heap_alloc_new w13 (.cells #[.int .i64 0] 3)
      have zA : (w13.alloc (.cells #[.int .i64 0] 3)).heap.size = w13.heap.size + 1 := by simp
      generalize w13.alloc (.cells #[.int .i64 0] 3) = wa at *
      have tB : Tch [] wa (wa.alloc (.cells #[.slice none 0 0] 37)) := (Tch.refl [] wa).alloc _
      have oB := heap_alloc_new wa (.cells #[.slice none 0 0] 37)
      rw [zA] at oB
      generalize wa.alloc (.cells #[.slice none 0 0] 37) = wb at *
      have LA0 : Hid (Ac w13 wb w13.heap.size (w13.heap.size + 1) 0 (.slice none 0 0) (.slice none 0 0) []) := hid ⟨tA.trans tB, tB.obj oA (by simp), oB, Sl.nil _ _ _, ⟨by omega, by omega, by simp [blks]⟩⟩
      clear tA oA zA tB oB
      generalize w13.heap.size + 1 = b16 at *
      obtain ⟨b14, hb14⟩ : ∃ b, w13.heap.size = b := ⟨_, rfl⟩
      have HN14 : Hid (b14 = w13.heap.size) := hid hb14.symm
      rw [hb14] at LA0 ⊢
      clear hb14
      have e12 := cell_of_row _ _ 0 _ _ _ (LA0.out.t.obj OQ12.out (by simp))
      simp only [List.getElem?_toArray, List.getElem?_cons_zero] at e12
      have l12 := cell_lt e12
      simp only at l12
      go_upto_region 23 with fail
      clear e12 l12
      go_loopw [13, 98] (fun vc vi wr => ∃ (i : Nat) (xa : Option Addr) (xn xc : Nat), vi = .int .i64 i ∧ i ≤ bs.length ∧ vc = .int .i64 (countM (qs.take i) : Nat) ∧ Hid (Ac w13 wr b14 b16 (seeL 0 ((qs.take i).flatMap blkS)) (.slice xa xn xc) (.slice xa xn xc) ((qs.take i).flatMap BlkM.ins))) (fun _ vi _ => bs.length - (intOf vi).toNat)
      case atStart => exact ⟨0, none, 0, 0, rfl, Nat.zero_le _, rfl, LA0.out⟩
      case round =>
        obtain ⟨i, xa, xn, xc, rfl, hi, rfl, HA⟩ := hrel
        rename World => wr
        clear LA0
        by_cases hil : i < bs.length
        · obtain ⟨B, hBx⟩ : ∃ x, qs[i]? = some x := ⟨qs[i]'(by omega), by simp⟩
          have mB := List.mem_of_getElem? hBx
          have pq := PQ.out.tchT HA.out.t
          have sq := pq.b
          rw [hql] at sq
          obtain ⟨p0, p1, p2, p3, p4, p5, p6⟩ := blk_at (by rw [← hql] at sq; exact sq) i hBx
          have lcb := cell_lt p0
          simp only at lcb
          obtain ⟨ja, jc, e1⟩ := (pq.q B mB).p.shape
          obtain ⟨ia, ic, e2⟩ := (pq.q B mB).i.shape
          have HBI := hid (PQ.out.q B mB).i
          have HBS := hid (HSM.out B mB)
          have HBG := hid (HGD.out B mB)
          have hpn := HPH.out B mB
          have hqn : B.ins.length ≤ 16 := (HGD.out B mB).m
          have HCI : Hid (countM (qs.take (i + 1)) = countM (qs.take i) + (1 + B.phis.length + B.ins.length)) := hid (by
            obtain ⟨h1, h2⟩ := List.getElem?_eq_some_iff.1 hBx
            unfold countM
            rw [List.take_succ_eq_append_getElem h1, h2, List.map_append, List.sum_append]
            simp)
          have hcle : countM (qs.take (i + 1)) ≤ countM qs := by
            unfold countM
            have h3 : (qs.map fun b => 1 + b.phis.length + b.ins.length) = ((qs.take (i + 1)).map fun b => 1 + b.phis.length + b.ins.length) ++ ((qs.drop (i + 1)).map fun b => 1 + b.phis.length + b.ins.length) := by rw [← List.map_append, List.take_append_drop]
            rw [h3, List.sum_append]; omega
          have hc2 := HCM.out
          have hc3 := HCI.out
          have HTB : Hid ((qs.take (i + 1)).flatMap blkS = (qs.take i).flatMap blkS ++ (B.ins.flatMap insS ++ lastR B)) := hid (take_flat (f := blkS) hBx)
          have HTI : Hid ((qs.take (i + 1)).flatMap BlkM.ins = (qs.take i).flatMap BlkM.ins ++ B.ins) := hid (by
            obtain ⟨h1, h2⟩ := List.getElem?_eq_some_iff.1 hBx
            rw [List.take_succ_eq_append_getElem h1, h2, List.flatMap_append]; simp)
          have HLT : Hid (∀ r ∈ (qs.take i).flatMap blkS, Sm r) := hid (fun r hr => by
            obtain ⟨C, hC, h⟩ := List.mem_flatMap.1 hr
            exact HSM.out C (List.mem_of_mem_take hC) r h)
          rw [e1] at p1
          rw [e2] at p2 HBI
          have HLIL : Hid (((qs.take i).flatMap BlkM.ins).length ≤ 200) := hid (by
            have h3 := flat_cnt (qs.take i)
            omega)
          obtain ⟨cn1, hcn1⟩ : ∃ c, countM (qs.take (i + 1)) = c := ⟨_, rfl⟩
          have HCN1 := hid hcn1
          rw [hcn1] at hc3 hcle
          clear hcn1 HCI
          generalize countM (qs.take i) = cn at *
          generalize (qs.take i).flatMap blkS = LB at *
          generalize (qs.take i).flatMap BlkM.ins = LI at *
          clear pq sq hBx mB e1 e2
          obtain ⟨pn, hpn2⟩ : ∃ q, B.phis.length = q := ⟨_, rfl⟩
          obtain ⟨qn, hqn2⟩ : ∃ q, B.ins.length = q := ⟨_, rfl⟩
          rw [hpn2] at p1 hpn hc3
          rw [hqn2] at p2 hqn hc3 HBI
          have HQN := hid hqn2
          have w1 : IntKind.i64.wrap (1 + (pn : Int)) = 1 + (pn : Int) := by rw [IntKind.wrap_i64]; omega
          have w2 : IntKind.i64.wrap (1 + (pn : Int) + (qn : Int)) = 1 + (pn : Int) + (qn : Int) := by rw [IntKind.wrap_i64]; omega
          have w3 : IntKind.i64.wrap ((cn : Int) + (1 + (pn : Int) + (qn : Int))) = (cn1 : Int) := by rw [IntKind.wrap_i64]; omega
          clear hpn2 hqn2 hcle
          go_upto_region 26 with fail
          have oBB := heap_alloc_new wr (.cells #[.int .i64 B.lab, .slice ja pn jc, .slice ia qn ic, .int .u8 B.e, .int .i64 B.a, .int .i64 B.y, .int .i64 B.n] 42)
          have A1 := hid (HA.out.tch ((Tch.refl [] wr).alloc (.cells #[.int .i64 B.lab, .slice ja pn jc, .slice ia qn ic, .int .u8 B.e, .int .i64 B.a, .int .i64 B.y, .int .i64 B.n] 42)))
          generalize wr.alloc (.cells #[.int .i64 B.lab, .slice ja pn jc, .slice ia qn ic, .int .u8 B.e, .int .i64 B.a, .int .i64 B.y, .int .i64 B.n] 42) = wr1 at *
          generalize wr.heap.size = bB at *
          have OBB := hid oBB
          clear oBB p0 p1 p2 p3 p4 p5 p6 lcb w1 w2 w3 HA
          have c2 := cell_of_row _ _ 2 _ _ _ OBB.out
          simp only [List.getElem?_toArray, List.getElem?_cons_zero, List.getElem?_cons_succ] at c2
          have l2 := lt_of_obj OBB.out
          go_upto_region 27 with fail
          clear c2 l2
          go_loopw [115] (fun vj wq => ∃ (j : Nat) (xa : Option Addr) (xn xc : Nat), vj = .int .i64 j ∧ j ≤ qn ∧ Hid (Ac w13 wq b14 b16 (seeL 0 (LB ++ (B.ins.take j).flatMap insS)) (.slice xa xn xc) (.slice xa xn xc) (LI ++ B.ins.take j)) ∧ Hid (wq.heap[bB]? = some (.cells #[.int .i64 B.lab, .slice ja pn jc, .slice ia qn ic, .int .u8 B.e, .int .i64 B.a, .int .i64 B.y, .int .i64 B.n] 42 (0, 0)))) (fun vj _ => qn - (intOf vj).toNat)
          case atStart => exact ⟨0, xa, xn, xc, rfl, Nat.zero_le _, hid (by simpa using A1.out), OBB.out⟩
          case round =>
            clear A1 OBB
            obtain ⟨j, xa, xn, xc, rfl, hj, HA, HO⟩ := hrel
            rename World => wq
            by_cases hjl : j < qn
            · obtain ⟨x, hxx⟩ : ∃ x, B.ins[j]? = some x := ⟨B.ins[j]'(by have := HQN.out; omega), by simp⟩
              have mx := List.mem_of_getElem? hxx
              have si := HBI.out.kept HA.out.t (by simp)
              obtain ⟨ib, io_, ic2, hv⟩ := si.ptr (by omega)
              cases hv
              obtain ⟨q0, q1, q2, q3, q4, q5, q6⟩ := ins_at (by have := HQN.out; rw [← this] at si; exact si) j hxx
              have lib := cell_lt q0
              simp only at lib
              have HLS : Hid (∀ r ∈ LB ++ (B.ins.take j).flatMap insS, Sm r) := hid (fun r hr => by
                rcases List.mem_append.1 hr with h | h
                · exact HLT.out r h
                · obtain ⟨y, hy, h⟩ := List.mem_flatMap.1 h
                  exact HBS.out r (by unfold blkS; exact List.mem_append.2 (.inl (List.mem_flatMap.2 ⟨y, List.mem_of_mem_take hy, h⟩))))
              have HXS : Hid (∀ r ∈ insS x, Sm r) := hid (fun r hr => HBS.out r (by unfold blkS; exact List.mem_append.2 (.inl (List.mem_flatMap.2 ⟨x, mx, hr⟩))))
              have HTS : Hid ((B.ins.take (j + 1)).flatMap insS = (B.ins.take j).flatMap insS ++ insS x) := hid (take_flat (f := insS) hxx)
              have HTJ : Hid (B.ins.take (j + 1) = B.ins.take j ++ [x]) := hid (by
                obtain ⟨h1, h2⟩ := List.getElem?_eq_some_iff.1 hxx
                rw [List.take_succ_eq_append_getElem h1, h2])
              have hx0 : 0 ≤ x.k := (HBG.out.i x mx).2
              have hlen : (LI ++ B.ins.take j).length ≤ 1000 := by
                have h1 := HLIL.out
                rw [List.length_append, List.length_take]
                omega
              generalize hLL : LB ++ (B.ins.take j).flatMap insS = LL at *
              generalize hIL : LI ++ B.ins.take j = IL at *
              have HLL2 := hid hLL
              have HIL2 := hid hIL
              clear hLL hIL hxx mx si
              obtain ⟨xk, xo, xd, xA, xB, xN, xs⟩ := x
              dsimp only at *
              have ek : io xk 1 xd = io xk 1 xd := rfl
              clear ek
              go_upto_region 29 with fail
              have oX := heap_alloc_new wq (.cells #[.int .u8 xk, .int .u8 xo, .int .i64 xd, .int .i64 xA, .int .i64 xB, .int .i64 xN, .int .i64 xs] 48)
              have tX : Tch [] wq (wq.alloc (.cells #[.int .u8 xk, .int .u8 xo, .int .i64 xd, .int .i64 xA, .int .i64 xB, .int .i64 xN, .int .i64 xs] 48)) := (Tch.refl [] wq).alloc _
              have NX : Hid (∀ k ∈ blks (.slice xa xn xc), ¬ k = wq.heap.size) := hid (fun k hk e => by have := HA.out.s.lt k hk; omega)
              have A1 := hid (HA.out.tch tX)
              have O1 := hid (tX.obj HO.out (by simp))
              clear q0 q1 q2 q3 q4 q5 q6 lib tX HA HO
              generalize wq.alloc (.cells #[.int .u8 xk, .int .u8 xo, .int .i64 xd, .int .i64 xA, .int .i64 xB, .int .i64 xN, .int .i64 xs] 48) = w1 at *
              generalize wq.heap.size = xb at *
              have OX := hid oX
              clear oX
              have cx0 := cell_of_row _ _ 0 _ _ _ OX.out
              have cx1 := cell_of_row _ _ 1 _ _ _ OX.out
              have cx2 := cell_of_row _ _ 2 _ _ _ OX.out
              have cx3 := cell_of_row _ _ 3 _ _ _ OX.out
              have cx4 := cell_of_row _ _ 4 _ _ _ OX.out
              have cx5 := cell_of_row _ _ 5 _ _ _ OX.out
              have cx6 := cell_of_row _ _ 6 _ _ _ OX.out
              simp only [List.getElem?_toArray, List.getElem?_cons_zero, List.getElem?_cons_succ] at cx0 cx1 cx2 cx3 cx4 cx5 cx6
              have lx := lt_of_obj OX.out
              obtain ⟨ca, fa, lA⟩ := A1.out.cell
              have sA : Sl w1 48 7 (.slice xa xn xc) IL.length (insC IL) := A1.out.s
              have hxn : xn = IL.length := by obtain ⟨a2, c2, e2⟩ := sA.shape; cases e2; rfl
              subst hxn
              have tY : Tch [] w1 (w1.alloc (.cells #[.int .u8 xk, .int .u8 xo, .int .i64 xd, .int .i64 xA, .int .i64 xB, .int .i64 xN, .int .i64 xs] 48)) := (Tch.refl [] w1).alloc _
              go_upto_region 30 with (at_builtin; refine wpList_append_t _ rfl _ _ 37 rfl Tryd.underlying37 info_ins rfl (by decide) (.slice xa IL.length xc) rfl (sA.kept tY (by simp)) ⟨w1.heap.size, 0, none⟩ 1 1 rfl [.int .u8 xk, .int .u8 xo, .int .i64 xd, .int .i64 xA, .int .i64 xB, .int .i64 xN, .int .i64 xs] rfl (fun j u hj => by rw [Addr.add_lit, Nat.zero_add, cell_of_row _ _ j _ _ _ (heap_alloc_new w1 (.cells #[.int .u8 xk, .int .u8 xo, .int .i64 xd, .int .i64 xA, .int .i64 xB, .int .i64 xN, .int .i64 xs] 48))]; simpa using hj) (by simp [Value.oneCell']) (by omega) ?_; intro v2 w3 sC tC dC oC; obtain ⟨va2, vc2, hv2⟩ := sC.shape; subst hv2; have TC := hid tC; have SC := hid sC; have OC := hid oC; clear sC tC dC oC; have ca3 := TC.out.obj (tY.obj A1.out.o (by simp)) (fun e => sl_ne (sA.kept tY (by simp)) (tY.obj A1.out.o (by simp)) (by decide) _ e rfl); have ca4 := cell_of_row _ _ 0 _ _ _ ca3; simp only [List.getElem?_toArray, List.getElem?_cons_zero] at ca4; have fa4 := frozen_of_row _ _ 0 _ _ ca3; have la4 := lt_of_obj ca3; clear ca3)
              have A3 := hid ((A1.out.tch tY).app (x := ⟨xk, xo, xd, xA, xB, xN, xs⟩) (iv := .slice va2 (IL.length + 1) vc2) (by
                have h := SC.out
                rw [show insC (IL ++ [(⟨xk, xo, xd, xA, xB, xN, xs⟩ : InsM)]) = insC IL ++ [.int .u8 xk, .int .u8 xo, .int .i64 xd, .int .i64 xA, .int .i64 xB, .int .i64 xN, .int .i64 xs] by simp [insC, InsM.cells], show (IL ++ [(⟨xk, xo, xd, xA, xB, xN, xs⟩ : InsM)]).length = IL.length + 1 by simp]
                exact h) TC.out OC.out)
              have OX3 := hid (TC.out.obj (tY.obj OX.out (by simp)) (fun e => NX.out _ e rfl))
              have O3 := hid (TC.out.obj (tY.obj O1.out (by simp)) (fun e => sl_ne (sA.kept tY (by simp)) (tY.obj O1.out (by simp)) (by decide) _ e rfl))
              have tP : Tch [b16] w3 (w3.setCell ⟨b16, 0, none⟩ (.slice va2 (IL.length + 1) vc2)) := (Tch.refl _ w3).setCell (p := ⟨b16, 0, none⟩) (.inl (by simp)) _
              have A4 := hid (A3.out.put (.slice va2 (IL.length + 1) vc2))
              have OX4 := hid (tP.obj OX3.out (fun e => obj_ne OX3.out A3.out.o (by decide) (by simpa using e)))
              have O4 := hid (tP.obj O3.out (fun e => obj_ne O3.out A3.out.o (by decide) (by simpa using e)))
              clear cx0 cx1 cx2 cx3 cx4 cx5 cx6 lx ca fa lA sA tY ca4 fa4 la4 A3 OX3 O3 tP A1 O1 OX TC SC OC NX
              generalize w3.setCell ⟨b16, 0, none⟩ (.slice va2 (IL.length + 1) vc2) = w4 at *
              have cx0 := cell_of_row _ _ 0 _ _ _ OX4.out
              have cx1 := cell_of_row _ _ 1 _ _ _ OX4.out
              have cx2 := cell_of_row _ _ 2 _ _ _ OX4.out
              have cx3 := cell_of_row _ _ 3 _ _ _ OX4.out
              have cx4 := cell_of_row _ _ 4 _ _ _ OX4.out
              have cx5 := cell_of_row _ _ 5 _ _ _ OX4.out
              have cx6 := cell_of_row _ _ 6 _ _ _ OX4.out
              simp only [List.getElem?_toArray, List.getElem?_cons_zero, List.getElem?_cons_succ] at cx0 cx1 cx2 cx3 cx4 cx5 cx6
              have lx := lt_of_obj OX4.out
              have HRD := hid (reads_any xk hx0 xo xd xA xB xN xs w4 (kindsT HKI.out (GQ.out.trans A4.out.t)))
              have HXR : Hid (∀ r ∈ rds xk xA xB, Sm r) := hid (fun r hr => HXS.out r (by unfold insS; exact List.mem_append.2 (.inl hr)))
              have hrl : (rds xk xA xB).length ≤ 1000000 := by unfold rds rdsB; cases kbb xk 2 <;> cases kbb xk 3 <;> simp
              generalize hrds : rds xk xA xB = RD at *
              have HRDE := hid hrds
              clear hrds
              go_upto_region 31 with (first
                | (go_at_call 12; refine HRD.out.mono ?_; rintro r w5 ⟨vR, rfl, sR, gR, bR⟩; have A5 := hid (A4.out.tch gR.tch); have OX5 := hid (gR.tch.obj OX4.out (by simp)); have O5 := hid (gR.tch.obj O4.out (by simp)); have HSE := hid (seeP_any vR RD b14 (seeL 0 LL) w5 sR hrl A5.out.r (fun k hk e => by have h1 := bR k hk; have h2 := lt_of_obj A4.out.r; omega) (seeL_in HLS.out) HXR.out); obtain ⟨ra, rc, hvR⟩ := sR.shape; subst hvR; clear sR gR bR)
                | (go_at_call 11; refine HSE.out.mono ?_; rintro r w6 ⟨rfl, hr6, t6⟩; have A6 := hid (A5.out.seeL hr6 t6); have OX6 := hid (t6.obj OX5.out (fun e => obj_ne OX5.out A5.out.r (by decide) (by simpa using e))); have O6 := hid (t6.obj O5.out (fun e => obj_ne O5.out A5.out.r (by decide) (by simpa using e))); clear hr6 t6))
              clear cx0 cx1 cx2 cx3 cx4 cx5 cx6 lx HRD HSE A5 OX5 O5 A4 OX4 O4 hrl
              rename World => w6
              have cx0 := cell_of_row _ _ 0 _ _ _ OX6.out
              have cx1 := cell_of_row _ _ 1 _ _ _ OX6.out
              have cx2 := cell_of_row _ _ 2 _ _ _ OX6.out
              have cx3 := cell_of_row _ _ 3 _ _ _ OX6.out
              have cx4 := cell_of_row _ _ 4 _ _ _ OX6.out
              have cx5 := cell_of_row _ _ 5 _ _ _ OX6.out
              have cx6 := cell_of_row _ _ 6 _ _ _ OX6.out
              simp only [List.getElem?_toArray, List.getElem?_cons_zero, List.getElem?_cons_succ] at cx0 cx1 cx2 cx3 cx4 cx5 cx6
              have lx := lt_of_obj OX6.out
              have HSX := hid (sets_any xk hx0 xo xd xA xB xN xs w6 (kindsT HKI.out (GQ.out.trans A6.out.t)))
              have HXE : Hid (insS ⟨xk, xo, xd, xA, xB, xN, xs⟩ = RD ++ (if kbb xk 1 then [io xk 1 xd] else [])) := hid (by rw [← HRDE.out]; rfl)
              have HL3 : Hid (∀ r ∈ LL ++ RD, Sm r) := hid (fun r hr => by
                rcases List.mem_append.1 hr with h | h
                · exact HLS.out r h
                · exact HXR.out r h)
              have HXD : Hid (kbb xk 1 = true → Sm (io xk 1 xd)) := hid (fun h => HXS.out _ (by rw [HXE.out, if_pos h]; simp))
              generalize io xk 1 xd = xD at *
              obtain ⟨fl, hfl⟩ : ∃ b, kbb xk 1 = b := ⟨_, rfl⟩
              rw [hfl] at HSX HXE HXD
              clear hfl
              go_upto_region 32 with (go_at_call 13; refine HSX.out.mono ?_; rintro r w7 ⟨rfl, g7⟩; have A7 := hid (A6.out.tch g7.tch); have O7b := hid (g7.tch.obj O6.out (by simp)); clear g7)
              clear cx0 cx1 cx2 cx3 cx4 cx5 cx6 lx HSX A6 OX6 O6
              have HTS2 : Hid (LB ++ (B.ins.take (j + 1)).flatMap insS = LL ++ insS ⟨xk, xo, xd, xA, xB, xN, xs⟩) := hid (by rw [HTS.out, ← List.append_assoc, HLL2.out])
              have HTJ2 : Hid (LI ++ B.ins.take (j + 1) = IL ++ [⟨xk, xo, xd, xA, xB, xN, xs⟩]) := hid (by rw [HTJ.out, ← List.append_assoc, HIL2.out])
              cases fl
              · have A9 : Hid (Ac w13 w7 b14 b16 (seeL 0 (LB ++ (B.ins.take (j + 1)).flatMap insS)) (.slice va2 (IL.length + 1) vc2) (.slice va2 (IL.length + 1) vc2) (LI ++ B.ins.take (j + 1))) := hid (by
                  rw [HTS2.out, HTJ2.out, HXE.out]
                  simpa using A7.out)
                clear A7
                go_wp2_with fail
                go_roundw
                case rel => exact ⟨j + 1, va2, IL.length + 1, vc2, by go_num, by omega, A9.out, O7b.out⟩
                case measure => simp [intOf]; omega
              · have t8 : Tch [] w7 (w7.alloc (.cells #[.int .i64 xD] 3)) := (Tch.refl [] w7).alloc _
                have A8 := hid (A7.out.tch t8)
                have O8b := hid (t8.obj O7b.out (by simp))
                have HSE := hid (seeP_any (.slice (some ⟨w7.heap.size, 0, none⟩) 1 1) [xD] b14 (seeL 0 (LL ++ RD)) _ (sl_new w7 _ rfl 3 1 1 (ivals [xD]) rfl (by simp [maxLen])) (by simp) A8.out.r (fun k hk e => by simp [blks] at hk; have h2 := lt_of_obj A7.out.r; omega) (seeL_in HL3.out) (by intro r hr; simp at hr; subst hr; exact HXD.out rfl))
                clear t8 A7 O7b
                go_wp2_with (go_at_call 11; refine HSE.out.mono ?_; rintro r w9 ⟨rfl, hr9, t9⟩; have A9a := hid (A8.out.seeL hr9 t9); have O9 := hid (t9.obj O8b.out (fun e => obj_ne O8b.out A8.out.r (by decide) (by simpa using e))); clear hr9 t9)
                have A9 : Hid (Ac w13 w9 b14 b16 (seeL 0 (LB ++ (B.ins.take (j + 1)).flatMap insS)) (.slice va2 (IL.length + 1) vc2) (.slice va2 (IL.length + 1) vc2) (LI ++ B.ins.take (j + 1))) := hid (by
                  rw [HTS2.out, HTJ2.out, HXE.out]
                  have h := A9a.out
                  rw [List.append_assoc] at h
                  simpa using h)
                go_roundw
                case rel => exact ⟨j + 1, va2, IL.length + 1, vc2, by go_num, by omega, A9.out, O9.out⟩
                case measure => simp [intOf]; omega
            · obtain rfl : j = qn := by omega
              have htk : B.ins.take j = B.ins := List.take_of_length_le (by have := HQN.out; omega)
              rw [htk] at HA
              clear htk
              have c3 := cell_of_row _ _ 3 _ _ _ HO.out
              have c4 := cell_of_row _ _ 4 _ _ _ HO.out
              have c5 := cell_of_row _ _ 5 _ _ _ HO.out
              have c6 := cell_of_row _ _ 6 _ _ _ HO.out
              simp only [List.getElem?_toArray, List.getElem?_cons_zero, List.getElem?_cons_succ] at c3 c4 c5 c6
              have lbB := lt_of_obj HO.out
              have HLR := hid (lreads B.e B.a B.y B.n wq)
              have HLQ : Hid (∀ r ∈ LB ++ B.ins.flatMap insS, Sm r) := hid (fun r hr => by
                rcases List.mem_append.1 hr with h | h
                · exact HLT.out r h
                · exact HBS.out r (by unfold blkS; exact List.mem_append.2 (.inl h)))
              have HLA : Hid (lreadsB B.e = true → Sm B.a) := hid (fun h => HBS.out _ (by unfold blkS lastR; rw [if_pos h]; simp))
              have HLE : Hid (lastR B = if lreadsB B.e then [B.a] else []) := hid rfl
              obtain ⟨fl, hfl⟩ : ∃ b, lreadsB B.e = b := ⟨_, rfl⟩
              rw [hfl] at HLR HLA HLE
              clear hfl
              rw [← List.append_assoc] at HTB
              generalize LB ++ B.ins.flatMap insS = LC at *
              go_upto_region 36 with (go_at_call 14; refine HLR.out.mono ?_; rintro r w7 ⟨rfl, g7⟩; have A7 := hid (HA.out.tch g7.tch); clear g7)
              clear c3 c4 c5 c6 lbB HLR HO HA
              cases fl
              · have A9 : Hid (Ac w13 w7 b14 b16 (seeL 0 ((qs.take (i + 1)).flatMap blkS)) (.slice xa xn xc) (.slice xa xn xc) ((qs.take (i + 1)).flatMap BlkM.ins)) := hid (by
                  rw [HTB.out, HTI.out, HLE.out]
                  simpa using A7.out)
                clear A7
                go_wp2_with fail
                go_roundw
                case rel => exact ⟨i + 1, xa, xn, xc, by go_num, by omega, by rw [HCN1.out]; congr 1; omega, A9.out⟩
                case measure => simp [intOf]; omega
              · have t8 : Tch [] w7 (w7.alloc (.cells #[.int .i64 B.a] 3)) := (Tch.refl [] w7).alloc _
                have A8 := hid (A7.out.tch t8)
                have HSE := hid (seeP_any (.slice (some ⟨w7.heap.size, 0, none⟩) 1 1) [B.a] b14 (seeL 0 LC) _ (sl_new w7 _ rfl 3 1 1 (ivals [B.a]) rfl (by simp [maxLen])) (by simp) A8.out.r (fun k hk e => by simp [blks] at hk; have h2 := lt_of_obj A7.out.r; omega) (seeL_in HLQ.out) (by intro r hr; simp at hr; subst hr; exact HLA.out rfl))
                clear t8 A7
                go_wp2_with (go_at_call 11; refine HSE.out.mono ?_; rintro r w9 ⟨rfl, hr9, t9⟩; have A9a := hid (A8.out.seeL hr9 t9); clear hr9 t9)
                have A9 : Hid (Ac w13 w9 b14 b16 (seeL 0 ((qs.take (i + 1)).flatMap blkS)) (.slice xa xn xc) (.slice xa xn xc) ((qs.take (i + 1)).flatMap BlkM.ins)) := hid (by
                  rw [HTB.out, HTI.out, HLE.out]
                  simpa using A9a.out)
                go_roundw
                case rel => exact ⟨i + 1, xa, xn, xc, by go_num, by omega, by rw [HCN1.out]; congr 1; omega, A9.out⟩
                case measure => simp [intOf]; omega
        · obtain rfl : i = bs.length := by omega
          have htk : qs.take bs.length = qs := List.take_of_length_le (by omega)
          rw [htk] at HA ⊢
          clear htk
          have oE := HA.out.t.obj OQ8.out (by simp)
          have e0 := cell_of_row _ _ 0 _ _ _ oE
          have e2 := cell_of_row _ _ 2 _ _ _ oE
          simp only [List.getElem?_toArray, List.getElem?_cons_zero, List.getElem?_cons_succ] at e0 e2
          have lE := lt_of_obj oE
          have HLQ : Hid (∀ r ∈ qs.flatMap blkS, Sm r) := hid (fun r hr => by
            obtain ⟨C, hC, h⟩ := List.mem_flatMap.1 hr
            exact HSM.out C hC r h)
          have hsd : Sm d := by have := HDD.out; unfold Sm; omega
          have HLD : Hid (∀ r ∈ qs.flatMap blkS ++ [d], Sm r) := hid (fun r hr => by
            rcases List.mem_append.1 hr with h | h
            · exact HLQ.out r h
            · simp at h; subst h; exact hsd)
          have HRT : Hid (seeL 0 (qs.flatMap blkS ++ [d] ++ AR) = regsT qs) := hid (by
            have h := regs_q HQ1.out.1 HRS.out
            rw [← HQS.out, HF1.out.1, HF1.out.2.2.2.2] at h
            exact h)
          have sAV : Sl w13 3 1 (.slice a2 m c2) AR.length (ivals AR) := by have h := PF.out.a; rw [HF1.out.2.2.2.1, HF1.out.2.2.2.2] at h; exact h
          have HAV2 := hid sAV
          have t1 : Tch [] wr (wr.alloc (.cells #[.int .i64 d] 3)) := (Tch.refl [] wr).alloc _
          have A1 := hid (HA.out.tch t1)
          have HS1 := hid (seeP_any (.slice (some ⟨wr.heap.size, 0, none⟩) 1 1) [d] b14 (seeL 0 (qs.flatMap blkS)) _ (sl_new wr _ rfl 3 1 1 (ivals [d]) rfl (by simp [maxLen])) (by simp) A1.out.r (fun k hk e => by simp [blks] at hk; have h2 := lt_of_obj HA.out.r; omega) (seeL_in HLQ.out) (by intro r hr; simp at hr; subst hr; exact hsd))
          generalize qs.flatMap blkS = LQ at *
          generalize hIQ : qs.flatMap BlkM.ins = IQ at *
          have HIQ := hid hIQ
          clear hIQ t1 HA sAV hsd oE
          go_upto_region 40 with (go_at_call 11; refine HS1.out.mono ?_; rintro r w2 ⟨rfl, hr2, t2⟩; have A2 := hid (A1.out.seeL hr2 t2); clear hr2 t2)
          clear e0 e2 lE A1 HS1
          have oE := A2.out.t.obj OQ8.out (by simp)
          have e2 := cell_of_row _ _ 2 _ _ _ oE
          simp only [List.getElem?_toArray, List.getElem?_cons_zero, List.getElem?_cons_succ] at e2
          have lE := lt_of_obj oE
          have hm2 := FQ.out.2.1
          have hm8 := FQ.out.2.2.2.2.2
          have HS2 := hid (seeP_any (.slice a2 m c2) AR b14 (seeL 0 (LQ ++ [d])) _ (HAV2.out.kept A2.out.t (by simp)) (by omega) A2.out.r (fun k hk e => by have h1 := HAV2.out.lt k hk; have h2 := HN14.out; omega) (seeL_in HLD.out) (fun r hr => by have := FQ.out.2.2.2.2.1 r hr; unfold Sm; omega))
          clear oE
          go_upto_region 41 with (go_at_call 11; refine HS2.out.mono ?_; rintro r w3 ⟨rfl, hr3, t3⟩; have A3 := hid (A2.out.seeL hr3 t3); clear hr3 t3)
          rw [HRT.out] at A3
          clear e2 lE A2 HS2 HRT HLD HLQ hm2 hm8
          have t4 : Tch [] w3 (w3.alloc (kO 0)) := (Tch.refl [] w3).alloc _
          have A4 := hid (A3.out.tch t4)
          have o25 := heap_alloc_new w3 (kO 0)
          go_upto_region 42 with fail
          have ew4 : w3.alloc (.cells #[.int .i64 0] 3) = w3.alloc (kO 0) := rfl
          rw [ew4]
          clear ew4
          have HN25 : Hid (b14 < w3.heap.size) := hid (lt_of_obj A3.out.r)
          generalize w3.alloc (kO 0) = w4 at *
          obtain ⟨b25, hb25⟩ : ∃ b, w3.heap.size = b := ⟨_, rfl⟩
          rw [hb25] at o25 HN25 ⊢
          have O25 := hid o25
          have HG25 : Hid (w13.heap.size ≤ b25) := hid (by rw [← hb25]; exact A3.out.t.size)
          clear t4 A3 o25 hb25
          have e12 := cell_of_row _ _ 0 _ _ _ (A4.out.t.obj OQ12.out (by simp))
          simp only [List.getElem?_toArray, List.getElem?_cons_zero] at e12
          have l12 := cell_lt e12
          simp only at l12
          have HZQ : Hid (∀ B ∈ qs, B.ins.length ≤ 1000000 ∧ B.phis.length ≤ 1000000 ∧ BlkSm B) := hid (fun B hB => by
            have h1 : B.ins.length ≤ 16 := (HGD.out B hB).m
            have h2 := HPH.out B hB
            refine ⟨by omega, by omega, fun x hx => ?_⟩
            rw [HQS.out] at hB
            rcases List.mem_cons.1 hB with rfl | hB
            · rw [HQ1.out.1] at hx
              simp at hx; subst hx
              unfold PhiSm
              rw [HF1.out.2.2.1, HF1.out.2.2.2.2]
              have h3 := FQ.out.1
              have h4 := FQ.out.2.1
              have h5 := FQ.out.2.2.2.2.2
              omega
            · rw [HRS.out B hB] at hx; simp at hx)
          have HIN := hid (instrs_any _ qs (by omega) (by omega) w4 (PQ.out.tchT A4.out.t) HZQ.out)
          go_wp2_with (go_at_call 15; refine HIN.out.mono ?_; rintro r w5 ⟨qb, v', cl, rfl, hqb, own, hpd, g5⟩; have OQB := hid hqb; have OWC := hid own; have HPC := hid hpd; have T45 := hid g5.tch; clear hqb own hpd g5)
          clear e12 l12 HIN
          have A5 := hid (A4.out.tch T45.out)
          have O255 := hid (T45.out.obj O25.out (by simp))
          have hlo : b25 < w4.heap.size := lt_of_obj O25.out
          have HLO4 := hid hlo
          have HFL : Hid (flI 0 cl = flI 0 qs) := hid (flI_ins 0 (pd_ins HPC.out))
          obtain ⟨zs, hzs⟩ : ∃ z, flI 0 cl = z := ⟨_, rfl⟩
          have HZS := hid hzs
          have HQB : Hid (¬ qb = b25) := hid (obj_ne OQB.out O255.out (by decide))
          clear O25 A4 T45 hlo
          have hseq := instrs_B 4 (by decide) qb w5.heap.size v' cl (fun k W => Tch [b25] w5 W ∧ W.heap[b25]? = some (kO k)) (fun k W h => OWC.out.okS h.1 (by simp; exact HLO4.out)) (fun k W W' h t => ⟨h.1.trans2 t (by simp), t.obj h.2 (by simp)⟩) (fun W h => by have := cell_of_row _ _ 0 _ _ _ (h.1.obj OQB.out (by simpa using HQB.out)); simpa using this)
          rw [hzs] at hseq
          refine (wpIn_wide (n := 5)).1 ?_
          refine wpIn_stepsC (fun (z : Nat × InsM) b t => (((t.setIfInBounds 161 (.int .i64 (z.1 : Int))).setIfInBounds 162 z.2.val').setIfInBounds 26 (.int .i64 (z.1 : Int))).setIfInBounds 27 (.pointer (some ⟨b, 0, none⟩))) (fun z => .cells #[.int .u8 z.2.k, .int .u8 z.2.o, .int .i64 z.2.d, .int .i64 z.2.a, .int .i64 z.2.b, .int .i64 z.2.n, .int .i64 z.2.s] 48) (fun _ => rfl) rfl (by decide) (gf := 31) (lb := #[.pointer (some ⟨qb, 0, none⟩)]) rfl trivial (enters_of Tryd.func31 (by kernel_rfl) rfl) (fun _ => rfl) (fun c W => False) zs.length hseq ?hI ?hIy ?hId ?hIx ?h0 ?assign ?body ?done ?stop
          case hI => exact fun m X Y row ⟨k, e, t, o⟩ g hr => ⟨k, e, tch_bkI t g hr (Nat.le_refl _), own_bkI g hr o rfl⟩
          case hIy => exact fun m x X Y row ⟨k, e, e2, t, o⟩ g hr => ⟨k, e, e2, tch_bkI t g hr (Nat.le_refl _), own_bkI g hr o rfl⟩
          case hId => exact fun _ X Y row ⟨t, o⟩ g hr => ⟨tch_bkI t g hr (Nat.le_refl _), own_bkI g hr o rfl⟩
          case hIx => exact fun c X Y row h g hr => h.elim
          case h0 => exact ⟨0, by omega, Tch.refl _ _, O255.out⟩
          case stop =>
            rintro D c X _ h _
            exact h.elim
          case assign =>
            intro lp z X K hK
            clear hseq
            obtain ⟨zi, zk, zo, zd, za, zb2, zn, zs2⟩ := z
            dsimp only [InsM.val'] at *
            gi_wp2
            try simp only [List.setIfInBounds_toArray, List.set_cons_succ, List.set_cons_zero] at hK
            exact hK
          case body =>
            as_aux_lemma =>
              clear hseq
              rintro lp m2 ⟨zi, zk, zo, zd, za, zb2, zn, zs2⟩ bz X hlp ⟨rec, hrec⟩ ⟨k, hk, hx, U, OK⟩ hbz hob
              dsimp only at hob
              have hzq : flI 0 qs = zs := HFL.out.symm.trans HZS.out
              obtain ⟨j, B, hzi, hjB, hxB⟩ := flI_in (List.mem_of_getElem? (by rw [hzq]; exact hx))
              dsimp only at hzi hxB
              obtain rfl : zi = j := by omega
              have hIk : IQ[k]? = some ⟨zk, zo, zd, za, zb2, zn, zs2⟩ := by
                rw [← HIQ.out, ← flI_snd qs 0, hzq, List.getElem?_map, hx]; rfl
              have hkI : k < IQ.length := (List.getElem?_eq_some_iff.1 hIk).1
              have hjl : zi < bs.length := by have := (List.getElem?_eq_some_iff.1 hjB).1; omega
              have hI2 : IQ.length ≤ 200 := by have h1 := flat_cnt qs; rw [HIQ.out] at h1; have h2 := HCM.out; omega
              have hkz : k < zs.length := (List.getElem?_eq_some_iff.1 hx).1
              have ek : IntKind.i64.wrap ((k : Int) + 1) = (k : Int) + 1 := by rw [IntKind.wrap_i64]; omega
              have tX : Tch [] w13 X := A5.out.t.trans2 U (fun q hq => .inr (by simp at hq; subst hq; exact HG25.out))
              have pX := PQ.out.tchT tX
              have sq := pX.b
              rw [hql] at sq
              obtain ⟨_, _, p2, _, _, _, _⟩ := blk_at (by rw [← hql] at sq; exact sq) zi hjB
              have e12 := cell_of_row _ _ 0 _ _ _ (tX.obj OQ12.out (by simp))
              simp only [List.getElem?_toArray, List.getElem?_cons_zero] at e12
              have sI := A5.out.s.kept U (fun q hq e => by simp at e; exact sl_ne A5.out.s O255.out (by decide) q hq e)
              obtain ⟨ib, io_, ic2, hv⟩ := sI.ptr (by omega)
              cases hv
              obtain ⟨q0, q1, q2, q3, q4, q5, q6⟩ := ins_at sI k hIk
              have c16 := cell_of_row _ _ 0 _ _ _ (U.obj A5.out.o (fun e => obj_ne A5.out.o O255.out (by decide) (by simpa using e)))
              have c25 : X.cell? ⟨b25, 0, none⟩ = some (.int .i64 (k : Int)) := by have := cell_of_row _ _ 0 _ _ _ OK; simpa using this
              have r0 := cell_of_row _ _ 0 _ _ _ hob
              have r1 := cell_of_row _ _ 1 _ _ _ hob
              have r2 := cell_of_row _ _ 2 _ _ _ hob
              have r3 := cell_of_row _ _ 3 _ _ _ hob
              have r4 := cell_of_row _ _ 4 _ _ _ hob
              have r5 := cell_of_row _ _ 5 _ _ _ hob
              have r6 := cell_of_row _ _ 6 _ _ _ hob
              simp only [List.getElem?_toArray, List.getElem?_cons_zero, List.getElem?_cons_succ] at c16 r0 r1 r2 r3 r4 r5 r6
              have mB := List.mem_of_getElem? hjB
              have sBI := (pX.q B mB).i
              obtain ⟨ia, ic, e2⟩ := sBI.shape
              rw [e2] at p2 sBI
              obtain ⟨qn, hqn⟩ : ∃ q, B.ins.length = q := ⟨_, rfl⟩
              have HCT : Hid (∀ W, Tch [] X W → Calls Tryd.prog 16 #[.slice ia qn ic, .agg #[.int .u8 zk, .int .u8 zo, .int .i64 zd, .int .i64 za, .int .i64 zb2, .int .i64 zn, .int .i64 zs2]] W fun e w' => e = .returned (.bool true) ∧ Tch [] W w') := hid (fun W t => by
                rw [hqn] at sBI
                exact contains_in _ B.ins ⟨zk, zo, zd, za, zb2, zn, zs2⟩ W (by rw [hqn]; exact sBI.kept t (by simp)) hxB)
              rw [hqn] at p2
              have eI : eqI ⟨zk, zo, zd, za, zb2, zn, zs2⟩ ⟨zk, zo, zd, za, zb2, zn, zs2⟩ = true := by simp [eqI]
              have HU0 := hid U
              have HOK := hid OK
              clear hrec sq pX tX sI sBI e2 mB hqn hzq hx hxB hob hjB hIk U OK hzi
              gi_upto_region 45 with fail
              try dsimp only
              try simp only [List.setIfInBounds_toArray, List.set_cons_succ, List.set_cons_zero]
              refine irp45 hmo r0 r1 r2 r3 r4 r5 r6 q0 q1 q2 q3 q4 q5 q6 c16 c25 e12 p2 hkI hjl HCT (by rintro ⟨_, _, h⟩; exact h) (fun x1 v163 v164 v165 v166 v167 v168 v169 v170 v171 v172 v173 v174 v175 v176 v177 v178 T1x => ?_)
              have hHeld : Tch [] X x1 ∧ True := ⟨T1x, trivial⟩
              have Y0 := hHeld.1
              have o1 := Y0.obj HOK.out (by simp)
              unfold kO at o1
              have d1 := cell_of_row _ _ 0 _ _ _ o1
              simp only [List.getElem?_toArray, List.getElem?_cons_zero] at d1
              have f1 := frozen_of_row _ _ 0 _ _ o1
              have l1 := lt_of_obj o1
              gi_wp2_with fail
              have tz : Tch [b25] x1 (x1.setCell ⟨b25, 0, none⟩ (.int .i64 ((k : Int) + 1))) := (Tch.refl _ x1).setCell (p := ⟨b25, 0, none⟩) (.inl (by simp)) _
              refine ⟨(Y0.kb _ (by simp)).trans (Tch.kb (S := [b25]) tz _ (fun b hb o ho => ?_)), m2 - 1, by omega, k + 1, by omega, (HU0.out.trans2 Y0 (by simp)).trans2 tz (fun q hq => .inl hq), ?_⟩
              · simp at hb
                subst hb
                rw [o1] at ho
                cases ho
                rfl
              · exact heap_setCell_same _ _ _ _ _ _ o1
          case done =>
            as_aux_lemma =>
              clear hseq
              rintro D X hD ⟨U, OK⟩ hKd
              have HKD := hid hKd
              have hxn : xn = IQ.length := by obtain ⟨a3, c3, e3⟩ := A5.out.s.shape; cases e3; rfl
              subst hxn
              have TX : Hid (Tch [] w13 X) := hid (A5.out.t.trans2 U (fun q hq => .inr (by simp at hq; subst hq; exact HG25.out)))
              have hzl : zs.length = IQ.length := by
                rw [← HIQ.out, ← flI_snd qs 0, HFL.out.symm.trans HZS.out, List.length_map]
              rw [hzl] at OK
              have C14 := hid (U.obj A5.out.r (by simp; have := HN25.out; omega))
              have C16 := hid (U.obj A5.out.o (fun e => obj_ne A5.out.o O255.out (by decide) (by simpa using e)))
              have C25 := hid OK
              clear U OK hKd hzl
              have HCX := hid (cloneP_ptr _ qs (by omega) (by omega) X (PQ.out.tchT TX.out) HZQ.out)
              rw [hql] at HCX
              have e12 := cell_of_row _ _ 0 _ _ _ (TX.out.obj OQ12.out (by simp))
              simp only [List.getElem?_toArray, List.getElem?_cons_zero] at e12
              have l12 := cell_lt e12
              simp only at l12
              go_upto_region 49 with (go_at_call 10; refine HCX.out.mono ?_; rintro r y1 ⟨cb2, co2, cc2, C2, rest2, rfl, own, hpd, g⟩; have OW2 := hid own; have HPD2 := hid hpd; have TY1 := hid g.tch; clear own hpd g)
              clear HCX e12 l12
              have t2 : Tch [] y1 (y1.alloc (.cells #[.slice (some ⟨cb2, co2, none⟩) bs.length cc2] 29)) := (Tch.refl [] y1).alloc _
              have o2 := heap_alloc_new y1 (.cells #[.slice (some ⟨cb2, co2, none⟩) bs.length cc2] 29)
              have OW3 := hid (OW2.out.tch t2)
              have TY2 := hid (TX.out.trans (TY1.out.trans t2))
              have TX2 := hid (TY1.out.trans t2)
              clear OW2 TY1
              generalize y1.alloc (.cells #[.slice (some ⟨cb2, co2, none⟩) bs.length cc2] 29) = y2 at *
              generalize y1.heap.size = b28 at *
              have O28 := hid o2
              clear t2 o2
              have e12 := cell_of_row _ _ 0 _ _ _ (TY2.out.obj OQ12.out (by simp))
              have e7 := cell_of_row _ _ 0 _ _ _ (TY2.out.obj OQ7.out (by simp))
              have e28 := cell_of_row _ _ 0 _ _ _ O28.out
              have e14 := cell_of_row _ _ 0 _ _ _ (TX2.out.obj C14.out (by simp))
              have e16 := cell_of_row _ _ 0 _ _ _ (TX2.out.obj C16.out (by simp))
              have e25 : y2.cell? ⟨b25, 0, none⟩ = some (.int .i64 (IQ.length : Int)) := by
                have := cell_of_row _ _ 0 _ _ _ (TX2.out.obj C25.out (by simp))
                simpa using this
              simp only [List.getElem?_toArray, List.getElem?_cons_zero] at e12 e7 e28 e14 e16
              have HK2 := hid (kindsT HKI.out (GQ.out.trans TY2.out))
              have mQ : Q0 ∈ qs := by rw [HQS.out]; simp
              have sn := same_not mQ HQ1.out.1 (fun B hB => (HNP.out B hB).2)
              have HSC := hid (pd_sm HPD2.out (fun B hB => (HZQ.out B hB).2.2))
              have PQ2 := hid (PQ.out.tchT TY2.out)
              have hcm2 := HCM.out
              have HS1 : Hid (∀ W, Tch [] y2 W → Calls Tryd.prog 17 #[.agg #[.slice (some ⟨cb, co, none⟩) bs.length cc], .agg #[.slice (some ⟨cb2, co2, none⟩) bs.length cc2]] W fun e w' => e = .returned (.bool true) ∧ Tch [] W w') := hid (fun W t => by
                have h := same_any _ _ qs (C2 :: rest2) W (PQ2.out.tchT t) ⟨OW3.out.s.kept t (by simp), fun B hB => (OW3.out.l.q B hB).tchT t⟩ (fun B hB => (HZQ.out B hB).2.2) HSC.out
                rw [(samP_iff _ _).2 HPD2.out.symm] at h
                exact h)
              have HS2 : Hid (∀ W, Tch [] y2 W → Calls Tryd.prog 17 #[.agg #[.slice (some ⟨pb, po, none⟩) bs.length pc], .agg #[.slice (some ⟨cb, co, none⟩) bs.length cc]] W fun e w' => e = .returned (.bool false) ∧ Tch [] W w') := hid (fun W t => by
                have h := same_any _ _ bs qs W (PP.out.tchT (TY2.out.trans t)) (PQ2.out.tchT t) (fun B hB x hx => by rw [(HNP.out B hB).2] at hx; simp at hx) (fun B hB => (HZQ.out B hB).2.2)
                rw [sn.1] at h
                exact h)
              have HS3 : Hid (∀ W, Tch [] y2 W → Calls Tryd.prog 18 #[.agg #[.slice (some ⟨cb, co, none⟩) bs.length cc]] W fun e w' => e = .returned (.int .i64 (countM qs)) ∧ Tch [] W w') := hid (fun W t => (count_any _ qs W (PQ2.out.tchT t) (by omega)).mono fun e w' h => ⟨h.1, h.2.tch⟩)
              have HRS4 : Hid (∀ B ∈ qs, ∀ r ∈ regsL B, Sm r) := hid (fun B hB r hr => by
                rcases (blkS_mem B r).1 hr with h | h
                · rw [HQS.out] at hB
                  rcases List.mem_cons.1 hB with rfl | hB
                  · rw [HQ1.out.1] at h
                    simp only [List.flatMap_cons, List.flatMap_nil, List.append_nil, phiR, List.mem_cons] at h
                    rw [HF1.out.1, HF1.out.2.2.2.2] at h
                    rcases h with rfl | h
                    · have := HDD.out; unfold Sm; omega
                    · have := FQ.out.2.2.2.2.1 r h; unfold Sm; omega
                  · rw [HRS.out B hB] at h; simp at h
                · exact HSM.out B hB r h)
              have HS4 : Hid (∀ W, Tch [] y2 W → Calls Tryd.prog 19 #[.agg #[.slice (some ⟨cb, co, none⟩) bs.length cc]] W fun e w' => e = .returned (.int .i64 (regsT qs)) ∧ Tch [] W w') := hid (fun W t => (regs_any _ qs W (kindsT HK2.out t) (PQ2.out.tchT t) (fun B hB q hq => ((HGD.out B hB).i q hq).2) HRS4.out).mono fun e w' h => ⟨h.1, h.2.tch⟩)
              have HS5 : Hid (∀ W, Tch [] y2 W → Calls Tryd.prog 8 #[.agg #[.slice (some ⟨cb, co, none⟩) bs.length cc]] W fun e w' => e = .returned (.bool false) ∧ Tch [] W w') := hid (fun W t => by
                have h := plain_any _ qs W (PQ2.out.tchT t)
                rw [sn.2] at h
                exact h)
              obtain ⟨ce, hce⟩ : ∃ c, checkE qs = c := ⟨_, rfl⟩
              have HS6 : Hid (∀ W, Tch [] y2 W → Calls Tryd.prog 7 #[.agg #[.slice (some ⟨cb, co, none⟩) bs.length cc]] W fun e w' => e = .returned (.int .i64 ce) ∧ Tch [] W w') := hid (fun W t => by
                have h := check_any _ qs W (kindsT HK2.out t) (PQ2.out.tchT t) CQ.out.2.2.1 (by omega)
                rw [hce] at h
                exact h.mono fun e w' h => ⟨h.1, h.2.tch⟩)
              have HCE : Hid (decide (ce = 0) = sb) := hid (by
                have h1 := CQ.out.1
                have h2 := HSB.out
                rw [hce, HF1.out.2.2.1] at h1
                cases sb <;> simp_all)
              clear sn hcm2 mQ hce
              refine irp49 hmo e12 e28 e7 e14 e25 e16 HS1 HS2 HS3 HS4 HS5 HS6 HCE (fun x6 v184 v185 v186 v187 v188 v189 v190 v191 v192 v193 v194 v195 v196 v197 v198 v199 v200 v201 v202 v203 v204 v205 v206 v207 v208 v209 v210 v211 v212 v213 v214 v215 v216 v217 v218 v219 v220 T6x => ?_)
              have hHeld : Tch [] y2 x6 ∧ True := ⟨T6x, trivial⟩
              clear T6x
              as_aux_lemma =>
                have T6 := hid hHeld.1
                have OW6 := hid (OW3.out.tch T6.out)
                have TX6 := hid (TX2.out.trans T6.out)
                have O286 := hid (T6.out.obj O28.out (by simp))
                clear hHeld HS1 HS2 HS3 HS4 HS5 HS6 HCE e12 e7 e28 e14 e16 e25 OW3 T6 O28 TX2 TY2 PQ2 HK2
                have KT : Hid (∀ W, Tch [] X W → W.cell? ⟨b12, 0, none⟩ = some (.slice (some ⟨cb, co, none⟩) bs.length cc) ∧ W.cell? ⟨cb, co + 1, none⟩ = some (.slice (some ⟨pB, 0, none⟩) 1 1) ∧ W.cell? ⟨pB, 0, none⟩ = some (.int .i64 d) ∧ W.heap[rb]? = some (.cells #[.bool false] 4 (0, 0))) := hid (fun W t => by
                  have pX := PQ.out.tchT (TX.out.trans t)
                  rw [HQS.out] at pX
                  have sq := pX.b
                  have h0 : (Q0 :: rest).length = bs.length := by rw [← HQS.out]; exact hql
                  obtain ⟨_, g1, _⟩ := blk_at sq 0 (x := Q0) (by simp)
                  have ps := (pX.q Q0 (by simp)).p
                  rw [HQ1.out.1, HQ1.out.2.2.2] at ps
                  obtain ⟨h3, _⟩ := phi_at ps 0 (x := f) (by simp)
                  rw [HQ1.out.2.2.2, show co + 0 * 7 + 1 = co + 1 by omega] at g1
                  rw [HF1.out.1] at h3
                  have e12 := cell_of_row _ _ 0 _ _ _ ((TX.out.trans t).obj OQ12.out (by simp))
                  exact ⟨by simpa using e12, g1, by simpa using h3, (TX.out.trans t).obj RBQ.out (by simp)⟩)
                have hpd3 := HPD2.out
                rw [HQS.out] at hpd3
                obtain ⟨x2p, hp2, hd2⟩ := pd_head hpd3 HQ1.out.1
                clear hpd3
                have s6 := OW6.out.s
                obtain ⟨_, g1, _⟩ := blk_at s6 0 (x := C2) (by simp)
                have hps := (OW6.out.l.q C2 (by simp)).p
                rw [hp2] at hps
                obtain ⟨fb, fo, fc, hpv⟩ := hps.ptr (by simp)
                have hpv1 : C2.pv = .slice (some ⟨fb, fo, none⟩) 1 fc := hpv
                rw [hpv1] at hps g1
                obtain ⟨p0, _⟩ := phi_at hps 0 (x := x2p) (by simp)
                rw [show fo + 0 * 3 = fo by omega, hd2, HF1.out.1] at p0
                rw [show co2 + 0 * 7 + 1 = co2 + 1 by omega] at g1
                have fzp := hps.cell.2.2.1
                have lfp := hps.cell.2.2.2
                obtain ⟨curp, hcurp⟩ := sl_obj hps
                have e28 := cell_of_row _ _ 0 _ _ _ O286.out
                simp only [List.getElem?_toArray, List.getElem?_cons_zero] at e28
                have l28 := cell_lt e28
                have lcb2 := cell_lt g1
                simp only at l28 lcb2
                have ewd2 : IntKind.i64.wrap (d + 1) = d + 1 := by have := HDD.out; rw [IntKind.wrap_i64]; omega
                have hb0 : (0 : Int) < (bs.length : Int) := by omega
                have HPS := hid hpv1
                have HP2 := hid hp2
                clear s6 hps hpv hpv1 hp2 hd2
                go_upto_region 52 with fail
                obtain ⟨ow7, t7, hfb⟩ := own_phi OW6.out HP2.out HPS.out (u := d + 1) rfl
                generalize x6.setCell ⟨fb, fo, none⟩ (.int .i64 (d + 1)) = x7 at *
                obtain ⟨C7, hC7⟩ : ∃ C, ({ C2 with phis := [{ x2p with d := d + 1 }] } : BlkM) = C := ⟨_, rfl⟩
                have HC7 : Hid (C7.phis = [{ x2p with d := d + 1 }]) := hid (by rw [← hC7])
                rw [hC7] at ow7
                have OW7 := hid ow7
                have TX7 : Hid (Tch [] X x7) := hid (TX6.out.trans2 t7 (fun q hq => .inr (by simp at hq; subst hq; exact hfb)))
                have O287 := hid (t7.obj O286.out (fun e => obj_ne O286.out hcurp (by decide) (by simpa using e)))
                have HSM7 : Hid (∀ B ∈ C7 :: rest2, BlkSm B) := hid (fun B hB x hx => by
                  rcases List.mem_cons.1 hB with rfl | hB
                  · rw [HC7.out] at hx
                    simp at hx; subst hx
                    exact HSC.out C2 (by simp) x2p (by rw [HP2.out]; simp)
                  · exact HSC.out B (by simp [hB]) x hx)
                clear ow7 t7 hfb hC7 OW6 TX6 O286 g1 p0 fzp lfp hcurp e28 l28 lcb2 HPS HP2
                have s7 := OW7.out.s
                obtain ⟨_, _, g2, _, _, _, _⟩ := blk_at s7 0 (x := C7) (by simp)
                rw [show co2 + 0 * 7 + 2 = co2 + 2 by omega] at g2
                have bi7 := (OW7.out.l.q C7 (by simp)).i
                have lg2 := cell_lt g2
                simp only at lg2
                clear s7
                cases hin : C7.ins with
                | nil =>
                  rw [hin] at bi7
                  obtain ⟨ia2, ic2, hiv⟩ := bi7.shape
                  rw [hiv] at g2
                  simp only [List.length_nil] at g2
                  clear bi7 hiv hin
                  have HPQ8 := hid (OW7.out.okS (Tch.refl [] x7) (by simp))
                  have HTX8 : Hid (Tch [] X x7) := hid TX7.out
                  have HSN : Hid (Calls Tryd.prog 17 #[.agg #[.slice (some ⟨cb, co, none⟩) bs.length cc], .agg #[.slice (some ⟨cb2, co2, none⟩) bs.length cc2]] x7 fun e w' => e = .returned (.bool false) ∧ Tch [] x7 w') := hid (by
                    have h := same_any _ _ qs _ x7 (PQ.out.tchT (TX.out.trans HTX8.out)) HPQ8.out (fun B hB => (HZQ.out B hB).2.2) HSM7.out
                    rw [HQS.out, same_no HQ1.out.1 HC7.out (by rw [HF1.out.1]; show ¬ d = d + 1; omega)] at h
                    exact h)
                  obtain ⟨c12, cq1, cq2, orb8⟩ := KT.out _ HTX8.out
                  have l12 := cell_lt c12
                  simp only at l12
                  have e28 := cell_of_row _ _ 0 _ _ _ O287.out
                  simp only [List.getElem?_toArray, List.getElem?_cons_zero] at e28
                  have l28 := cell_lt e28
                  simp only at l28
                  go_wp2_with (go_at_call 17; refine HSN.out.mono ?_; rintro e x9 ⟨rfl, t9⟩; have T9 := hid t9; obtain ⟨d12, dq1, dq2, orb9⟩ := KT.out _ (HTX8.out.trans t9); have lq9 := cell_lt dq1; have lp9 := cell_lt dq2; have ld9 := cell_lt d12; simp only at lq9 lp9 ld9; have crb := cell_of_row _ _ 0 _ _ _ orb9; simp only [List.getElem?_toArray, List.getElem?_cons_zero] at crb; have frb := frozen_of_row _ _ 0 _ _ orb9; have lrb := lt_of_obj orb9; clear t9)
                  have KD9 := (HTX8.out.trans T9.out).obj HKD.out (by simp)
                  have hne : ¬ rb = D := fun e => by rw [e, KD9] at orb9; cases orb9
                  have kd : (x9.setCell ⟨rb, 0, none⟩ (.bool true)).heap[D]? = some (.deferred (some [])) := (Below.heap_setCell _ _ _ _ (fun e => by simp at e; first | exact hne e | exact hne e.symm)).trans KD9
                  have BY : (x9.setCell ⟨rb, 0, none⟩ (.bool true)).heap[rb]? = some (.cells #[.bool true] 4 (0, 0)) := heap_setCell_same _ _ _ _ _ _ orb9
                  have BZ : ((x9.setCell ⟨rb, 0, none⟩ (.bool true)).putObj D (.deferred none)).heap[rb]? = some (.cells #[.bool true] 4 (0, 0)) := (World.putObj_heap_other (by omega)).trans BY
                  have e0 := cell_of_row _ _ 0 _ _ _ BZ
                  simp only [List.getElem?_toArray, List.getElem?_cons_zero] at e0
                  have F0 : Tch [] w x9 := GQ.out.trans (TX.out.trans (HTX8.out.trans T9.out))
                  have F1 : Tch [] w (x9.setCell ⟨rb, 0, none⟩ (.bool true)) := F0.setCell (p := ⟨rb, 0, none⟩) (.inr LRB.out) _
                  have F2 : Tch [] w ((x9.setCell ⟨rb, 0, none⟩ (.bool true)).putObj D (.deferred none)) := F1.trans2 (Tch.of_grown (S := [D]) (Go.grownBy_putObj' _ D _) (fun k e => by cases e; simp)) (fun k hk => .inr (by simp at hk; subst hk; have h1 := GQ.out.size; have h2 := A5.out.t.size; omega))
                  refine ⟨by simp, .inl ⟨_, _, rfl, run_takeDeferred kd, ?_⟩⟩
                  exact ⟨_, (show (results _ _).run _ _ = .ok (.bool true) _ by simp [results, Tryd.results3, go_sem, e0]), rfl, F2⟩
                | cons xi ri =>
                  rw [hin] at bi7
                  obtain ⟨ib2, io2, ic2, hiv⟩ := bi7.ptr (by simp)
                  rw [hiv] at g2 bi7
                  obtain ⟨curi, hcuri⟩ := sl_obj bi7
                  obtain ⟨_, _, _, _, _, q5, _⟩ := ins_at bi7 0 (x := xi) (by simp)
                  rw [show io2 + 0 * 7 + 5 = io2 + 5 by omega] at q5
                  have fzi := bi7.cell.2.2.1
                  have lfi := bi7.cell.2.2.2
                  obtain ⟨qn, hqn⟩ : ∃ q, (xi :: ri).length = q := ⟨_, rfl⟩
                  rw [hqn] at g2
                  have hq0 : (0 : Int) < (qn : Int) := by rw [← hqn]; simp
                  have HIV := hid hiv
                  have HIN2 := hid hin
                  have e28 := cell_of_row _ _ 0 _ _ _ O287.out
                  simp only [List.getElem?_toArray, List.getElem?_cons_zero] at e28
                  have l28 := cell_lt e28
                  simp only at l28
                  clear bi7 hiv hin hqn
                  go_upto_region 54 with fail
                  obtain ⟨x8, hx8⟩ : ∃ x8, x7.setCell ⟨ib2, io2 + 5, none⟩ (.int .i64 (wrap64 (xi.n + 1))) = x8 := ⟨_, rfl⟩
                  rw [hx8]
                  obtain ⟨pq8, t8, hib⟩ := own_insT OW7.out HIN2.out HIV.out hx8.symm
                  have O288 := hid (t8.obj O287.out (fun e => obj_ne O287.out hcuri (by decide) (by simpa using e)))
                  have TX8a := hid (TX7.out.trans2 t8 (fun q hq => .inr (by simp at hq; subst hq; exact hib)))
                  have PQ8a := hid pq8
                  clear pq8 t8 hib hx8 e28 l28 g2 lg2 q5 fzi lfi hcuri
                  have HPQ8 := hid PQ8a.out
                  have HTX8 : Hid (Tch [] X x8) := hid TX8a.out
                  have HSN : Hid (Calls Tryd.prog 17 #[.agg #[.slice (some ⟨cb, co, none⟩) bs.length cc], .agg #[.slice (some ⟨cb2, co2, none⟩) bs.length cc2]] x8 fun e w' => e = .returned (.bool false) ∧ Tch [] x8 w') := hid (by
                    have h := same_any _ _ qs _ x8 (PQ.out.tchT (TX.out.trans HTX8.out)) HPQ8.out (fun B hB => (HZQ.out B hB).2.2) (fun B hB x hx => by
                        rcases List.mem_cons.1 hB with rfl | hB
                        · exact HSM7.out C7 (by simp) x hx
                        · exact HSM7.out B (by simp [hB]) x hx)
                    rw [HQS.out, same_no HQ1.out.1 (show BlkM.phis { C7 with ins := { xi with n := wrap64 (xi.n + 1) } :: ri } = _ from HC7.out) (by rw [HF1.out.1]; show ¬ d = d + 1; omega)] at h
                    exact h)
                  obtain ⟨c12, cq1, cq2, orb8⟩ := KT.out _ HTX8.out
                  have l12 := cell_lt c12
                  simp only at l12
                  have e28 := cell_of_row _ _ 0 _ _ _ O288.out
                  simp only [List.getElem?_toArray, List.getElem?_cons_zero] at e28
                  have l28 := cell_lt e28
                  simp only at l28
                  go_wp2_with (go_at_call 17; refine HSN.out.mono ?_; rintro e x9 ⟨rfl, t9⟩; have T9 := hid t9; obtain ⟨d12, dq1, dq2, orb9⟩ := KT.out _ (HTX8.out.trans t9); have lq9 := cell_lt dq1; have lp9 := cell_lt dq2; have ld9 := cell_lt d12; simp only at lq9 lp9 ld9; have crb := cell_of_row _ _ 0 _ _ _ orb9; simp only [List.getElem?_toArray, List.getElem?_cons_zero] at crb; have frb := frozen_of_row _ _ 0 _ _ orb9; have lrb := lt_of_obj orb9; clear t9)
                  have KD9 := (HTX8.out.trans T9.out).obj HKD.out (by simp)
                  have hne : ¬ rb = D := fun e => by rw [e, KD9] at orb9; cases orb9
                  have kd : (x9.setCell ⟨rb, 0, none⟩ (.bool true)).heap[D]? = some (.deferred (some [])) := (Below.heap_setCell _ _ _ _ (fun e => by simp at e; first | exact hne e | exact hne e.symm)).trans KD9
                  have BY : (x9.setCell ⟨rb, 0, none⟩ (.bool true)).heap[rb]? = some (.cells #[.bool true] 4 (0, 0)) := heap_setCell_same _ _ _ _ _ _ orb9
                  have BZ : ((x9.setCell ⟨rb, 0, none⟩ (.bool true)).putObj D (.deferred none)).heap[rb]? = some (.cells #[.bool true] 4 (0, 0)) := (World.putObj_heap_other (by omega)).trans BY
                  have e0 := cell_of_row _ _ 0 _ _ _ BZ
                  simp only [List.getElem?_toArray, List.getElem?_cons_zero] at e0
                  have F0 : Tch [] w x9 := GQ.out.trans (TX.out.trans (HTX8.out.trans T9.out))
                  have F1 : Tch [] w (x9.setCell ⟨rb, 0, none⟩ (.bool true)) := F0.setCell (p := ⟨rb, 0, none⟩) (.inr LRB.out) _
                  have F2 : Tch [] w ((x9.setCell ⟨rb, 0, none⟩ (.bool true)).putObj D (.deferred none)) := F1.trans2 (Tch.of_grown (S := [D]) (Go.grownBy_putObj' _ D _) (fun k e => by cases e; simp)) (fun k hk => .inr (by simp at hk; subst hk; have h1 := GQ.out.size; have h2 := A5.out.t.size; omega))
                  refine ⟨by simp, .inl ⟨_, _, rfl, run_takeDeferred kd, ?_⟩⟩
                  exact ⟨_, (show (results _ _).run _ _ = .ok (.bool true) _ by simp [results, Tryd.results3, go_sem, e0]), rfl, F2⟩
end Go.Proofs.YtjkokokddijpkaaDoor
