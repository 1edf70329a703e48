
/- Instrs and its iterator, while all but the book-keeping may turn. -/
import Derived.Test.YtjkokokddijpkaaDoorIpB
import Derived.Test.YtjkokokddijpkaaDoorFg
import Derived.TacticsInMore
import Derived.LoopIn
set_option linter.unusedSimpArgs false
set_option linter.unusedVariables false
namespace Go.Proofs.YtjkokokddijpkaaDoor
open Go.RowKit Go.Sort Go.Maps Go.Shelf
attribute [local go_sem] Oper.semAt_some

theorem nof_ins (l : Nat) (w : World) : (binOp .eql 82 (.func (.yield l) #[] #[]) .nilFunc).run Tryd.prog w = .ok (.bool false) w := by kernel_rfl
/-- A program's instructions, each with its block's place. -/
def flI : Nat → List BlkM → List (Nat × InsM)
  | _, [] => []
  | i, B :: r => B.ins.map (fun x => (i, x)) ++ flI (i + 1) r
/-- What Instrs' iterator goes by: C k: k items have been gone through. -/
def gI {α : Type} (zs : List α) (C : Nat → World → Prop) (m : Nat) (W : World) : Prop := ∃ k, k + m = zs.length ∧ C k W
def gY {α : Type} (zs : List α) (C : Nat → World → Prop) (m : Nat) (x : α) (W : World) : Prop := ∃ k, k + m = zs.length ∧ zs[k]? = some x ∧ C k W
theorem gI_at {α : Type} {zs : List α} {C : Nat → World → Prop} {k : Nat} {W : World} (hk : k ≤ zs.length) (h : gI zs C (zs.length - k) W) : C k W := by
  obtain ⟨j, h1, h2⟩ := h
  have : j = k := by omega
  subst this
  exact h2
def InsM.val' (x : InsM) : Value := .agg #[.int .u8 x.k, .int .u8 x.o, .int .i64 x.d, .int .i64 x.a, .int .i64 x.b, .int .i64 x.n, .int .i64 x.s]
theorem drop_step {α : Type} {zs rest : List α} {k : Nat} {x : α} (h : zs.drop k = x :: rest) : zs[k]? = some x ∧ zs.drop (k + 1) = rest ∧ k < zs.length := by
  have hl : k < zs.length := by
    rcases Nat.lt_or_ge k zs.length with h1 | h1
    · exact h1
    · rw [List.drop_of_length_le h1] at h; cases h
  rw [List.drop_eq_getElem_cons hl] at h
  injection h with h1 h2
  exact ⟨by rw [← h1]; simp, h2, hl⟩
set_option maxRecDepth 100000 in
set_option maxHeartbeats 8000000 in
/-- **The instructions, one after the other.** -/
theorem instrs_B (n : Nat) (hn : 1 ≤ n) (qb B : Nat) (v : Value) (cl : List BlkM) (C : Nat → World → Prop) (hC : ∀ k W, C k W → ProgOk W v cl) (hT : ∀ k W W', C k W → Tch [] W W' → C k W') (hB0 : ∀ W, C 0 W → W.cell? ⟨qb, 0, none⟩ = some v) :
    SeqB Fence.wide n Tryd.prog 31 #[.pointer (some ⟨qb, 0, none⟩)] (fun z : Nat × InsM => #[.int .i64 (z.1 : Int), z.2.val']) B (fun m m' => m' + 1 = m) (flI 0 cl).length (gI (flI 0 cl) C) (gY (flI 0 cl) C) (fun W => C (flI 0 cl).length W) := fun l J Jx Jd W hJI hJd hY h0 => by
  have hnf := nof_ins l
  have c0 : C 0 W := gI_at (Nat.zero_le _) (by rw [Nat.sub_zero]; exact hJI _ _ h0)
  have hb := hB0 W c0
  have hp := hC 0 W c0
  have hle := hp.b.le
  unfold maxLen at hle
  obtain ⟨ao, ac, hsv⟩ := hp.b.shape
  subst hsv
  have lq := cell_lt hb
  simp only at lq
  have HC := hid hC
  have HT := hid hT
  have HJI := hid hJI
  have HJD := hid hJd
  have HY := hid hY
  have C0 := hid c0
  have H0 := hid h0
  clear hp c0 hC hT hB0 hJI hJd hY h0
  obtain ⟨zs, hzs⟩ : ∃ zs, flI 0 cl = zs := ⟨_, rfl⟩
  rw [hzs] at HJI HJD HY H0
  have HZ := hid hzs
  clear hzs
  refine callsIn_of_wp Tryd.func31 rfl trivial ?_ rfl
  simp only [Tryd.ntmps31, List.size_toArray, List.length_cons, List.length_nil, Nat.reduceAdd, Nat.reduceSub, Array.replicate_succ, Array.replicate_zero, List.push_toArray, List.append_toArray, List.nil_append, List.cons_append]
  gi_wp2
  gi_loopw [12] (fun vi wr => ∃ (i k : Nat), vi = .int .i64 i ∧ i ≤ cl.length ∧ Hid (∃ W1, J (zs.length - k) W1 ∧ KB B W1 wr ∧ C k wr) ∧ Hid (zs.drop k = flI i (cl.drop i)) ∧ Hid (k ≤ zs.length)) (fun vi _ => cl.length - (intOf vi).toNat)
  case atStart => exact ⟨0, 0, rfl, Nat.zero_le _, ⟨W, by rw [Nat.sub_zero]; exact H0.out, KB.refl _ _, C0.out⟩, HZ.out.symm, Nat.zero_le _⟩
  case round =>
    obtain ⟨i, k, rfl, hi, HJ, HD, HK⟩ := hrel
    by_cases hlt : i < cl.length
    · obtain ⟨W1, j1, k1, ck⟩ := HJ.out
      have hp := HC.out k wr ck
      obtain ⟨b1, o1, d1, hv⟩ := hp.b.ptr (by omega)
      cases hv
      obtain ⟨X, hX⟩ : ∃ x, cl[i]? = some x := ⟨cl[i], by simp [hlt]⟩
      have mX := List.mem_of_getElem? hX
      obtain ⟨p0, p1, p2, p3, p4, p5, p6⟩ := blk_at hp.b i hX
      have lt1 : b1 < wr.heap.size := cell_lt p0
      obtain ⟨ja, jc, e2⟩ := (hp.q X mX).p.shape
      obtain ⟨ia, ic, e3⟩ := (hp.q X mX).i.shape
      have hile := (hp.q X mX).i.le
      unfold maxLen at hile
      have HXI := hid (fun k2 W2 (h : C k2 W2) => ((HC.out k2 W2 h).q X mX).i)
      rw [e3] at HXI
      have hd : cl.drop i = X :: cl.drop (i + 1) := by obtain ⟨h3, h4⟩ := List.getElem?_eq_some_iff.1 hX; rw [List.drop_eq_getElem_cons h3, h4]
      rw [hd] at HD
      have HD0 : Hid (zs.drop k = (X.ins.drop 0).map (fun x => (i, x)) ++ flI (i + 1) (cl.drop (i + 1))) := HD.out
      rw [e2] at p1
      rw [e3] at p2
      clear hX hp hd HD e2 e3
      obtain ⟨xl, xp, xq, xv, xi, xe, xa, xy, xn⟩ := X
      dsimp only at *
      have tA : Tch [] wr (wr.alloc (.cells #[.int .i64 xl, .slice ja xq.length jc, .slice ia xi.length ic, .int .u8 xe, .int .i64 xa, .int .i64 xy, .int .i64 xn] 42)) := (Tch.refl [] wr).alloc _
      have HJ0 : Hid (∃ W1, J (zs.length - k) W1 ∧ KB B W1 (wr.alloc (.cells #[.int .i64 xl, .slice ja xq.length jc, .slice ia xi.length ic, .int .u8 xe, .int .i64 xa, .int .i64 xy, .int .i64 xn] 42)) ∧ C k (wr.alloc (.cells #[.int .i64 xl, .slice ja xq.length jc, .slice ia xi.length ic, .int .u8 xe, .int .i64 xa, .int .i64 xy, .int .i64 xn] 42))) := ⟨W1, j1, k1.trans (tA.kb B (by simp)), HT.out _ _ _ ck tA⟩
      clear j1 k1 ck HJ tA
      gi_wp2
      gi_loopw [20] (fun vj wq => ∃ (j k : Nat), vj = .int .i64 j ∧ j ≤ xi.length ∧ Hid (∃ W1, J (zs.length - k) W1 ∧ KB B W1 wq ∧ C k wq) ∧ Hid (zs.drop k = (xi.drop j).map (fun x => (i, x)) ++ flI (i + 1) (cl.drop (i + 1))) ∧ Hid (k ≤ zs.length)) (fun vj _ => xi.length - (intOf vj).toNat)
      case atStart => exact ⟨0, k, rfl, Nat.zero_le _, HJ0.out, HD0.out, HK.out⟩
      case round =>
        clear HJ0 HD0 HK p0 p1 p2 p3 p4 p5 p6 lt1
        clear k
        obtain ⟨j, k, rfl, hj, HJ, HD, HK⟩ := hrel
        rename World => wq
        by_cases hlj : j < xi.length
        · obtain ⟨W1, j1, k1, ck⟩ := HJ.out
          have si := HXI.out k wq ck
          obtain ⟨b2, o2, d2, hv⟩ := si.ptr (by omega)
          cases hv
          obtain ⟨y, hy⟩ : ∃ x, xi[j]? = some x := ⟨xi[j], by simp [hlj]⟩
          obtain ⟨q0, q1, q2, q3, q4, q5, q6⟩ := ins_at si j hy
          have lt2 : b2 < wq.heap.size := cell_lt q0
          have hd2 : xi.drop j = y :: xi.drop (j + 1) := by obtain ⟨h3, h4⟩ := List.getElem?_eq_some_iff.1 hy; rw [List.drop_eq_getElem_cons h3, h4]
          rw [hd2, List.map_cons, List.cons_append] at HD
          obtain ⟨hz1, hz2, hz3⟩ := drop_step HD.out
          obtain ⟨yk, yo, yd, ya, yb, yn, ys⟩ := y
          dsimp only at *
          have tA : Tch [] wq (wq.alloc (.cells #[.int .u8 yk, .int .u8 yo, .int .i64 yd, .int .i64 ya, .int .i64 yb, .int .i64 yn, .int .i64 ys] 48)) := (Tch.refl [] wq).alloc _
          obtain ⟨fn, tmps, assign, body, hyy, hR⟩ := HY.out (zs.length - k) W1 _ (i, ⟨yk, yo, yd, ya, yb, yn, ys⟩) j1 (k1.trans (tA.kb B (by simp))) ⟨k, by omega, hz1, HT.out _ _ _ ck tA⟩
          dsimp only [InsM.val'] at hyy hR
          have HZ2 := hid hz2
          have HZ3 := hid hz3
          clear hy si hd2 HD hz1 hz2 hz3 j1 k1 ck HJ tA
          gi_wp2
          refine hR.mono ?_
          rintro e W3 (⟨rfl, m', hm', hJ3⟩ | ⟨rfl, hJx3⟩)
          · have HJ3 : Hid (J (zs.length - (k + 1)) W3) := by
              rw [show zs.length - (k + 1) = m' by have := HZ3.out; omega]; exact hJ3
            clear hJ3
            gi_wp2
            go_roundw
            case rel => exact ⟨j + 1, k + 1, by go_num, by omega, ⟨W3, HJ3.out, KB.refl _ _, gI_at (by have := HZ3.out; omega) (HJI.out _ _ HJ3.out)⟩, HZ2.out, HZ3.out⟩
            case measure => simp [intOf]; omega
          · gi_wp2
            refine bodyPost_ret (results_none rfl _ _ _) rfl ?_
            exact ⟨⟨_, rfl⟩, .inr hJx3⟩
        · have hjn : ¬ ((j : Int) < (xi.length : Int)) := by omega
          have HE : Hid (zs.drop k = flI (i + 1) (cl.drop (i + 1))) := hid (by
            have h := HD.out
            have hdn : xi.drop j = [] := List.drop_of_length_le (by omega)
            rw [hdn] at h; exact h)
          clear HD
          gi_wp2
          go_roundw
          case rel =>
            exact ⟨_, _, _, _, ⟨i + 1, by go_num, by omega, k, HJ.out, HE.out, HK.out⟩, rfl, rfl, rfl, rfl⟩
          case measure => simp [intOf]; omega
    · have hin : ¬ ((i : Int) < (cl.length : Int)) := by omega
      obtain ⟨W1, j1, k1, ck⟩ := HJ.out
      have ek : k = zs.length := by
        have h := HD.out
        have hdn : cl.drop i = [] := List.drop_of_length_le (by omega)
        rw [hdn] at h
        have h2 : zs.drop k = [] := h
        have h3 := List.drop_eq_nil_iff.1 h2
        have := HK.out
        omega
      rw [ek] at j1 ck
      rw [Nat.sub_self] at j1
      have JD := hid (HJD.out _ _ _ j1 k1 ck)
      clear j1 k1 ck ek HJ HD HK
      gi_wp2
      go_end0
      exact ⟨⟨_, rfl⟩, .inl JD.out⟩
set_option maxRecDepth 100000 in
set_option maxHeartbeats 4000000 in
/-- **Instrs.** -/
theorem instrs_any (v : Value) (bs : List BlkM) (h1 : 1 ≤ bs.length) (h2 : bs.length ≤ 1000000) (w : World) (h : ProgOk w v bs) (hz : ∀ B ∈ bs, B.ins.length ≤ 1000000 ∧ B.phis.length ≤ 1000000 ∧ BlkSm B) :
    Calls Tryd.prog 15 #[.agg #[v]] w fun e w' => ∃ qb v' cl, e = .returned (.func (.func 31) #[] #[.pointer (some ⟨qb, 0, none⟩)]) ∧ w'.heap[qb]? = some (.cells #[v'] 29 (0, 0)) ∧ OwnP w.heap.size w' v' cl ∧ cl.map BlkM.pd = bs.map BlkM.pd ∧ Gr w w' := by
  obtain ⟨va, vc, hv⟩ := h.b.shape
  have HC := hid (fun W (g : Gr w W) => cloneP_any v bs h1 h2 W (h.gr g) hz)
  subst hv
  have hbl1 := h1
  clear h hz
  go_enter Tryd.func15, Tryd.ntmps15
  go_wp2_with (go_at_call 10; refine (HC.out _ ((Gr.refl w).alloc _)).mono ?_; rintro e w2 ⟨v', cl, rfl, own, hpd, g2⟩; obtain ⟨ca, cc, hv2⟩ := own.s.shape; subst hv2; have OW := hid own; have HPD := hid hpd; have G2 := hid g2; clear own hpd g2)
  go_ret
  have g3 : Gr w2 (w2.alloc (.cells #[.slice ca cl.length cc] 29)) := (Gr.refl w2).alloc _
  exact ⟨_, _, cl, rfl, heap_alloc_new w2 _, ⟨OW.out.s.gr g3, fun k hk => by have := OW.out.v k hk; simp at this; omega, ((OW.out.l.kept g3.tch (by simp)).mono g3.size).low (by simp)⟩, HPD.out, (((Gr.refl w).alloc _).trans G2.out).trans g3⟩
end Go.Proofs.YtjkokokddijpkaaDoor
