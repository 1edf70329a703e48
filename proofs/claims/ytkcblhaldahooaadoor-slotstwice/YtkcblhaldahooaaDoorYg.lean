/- Joined: IpB, IpI, IpP. -/
import Derived.Test.YtkcblhaldahooaaDoorIpA
import Derived.Test.YtkcblhaldahooaaDoorFg
import Derived.Deep.LoopGhost
import Derived.TacticsInMore
import Derived.LoopIn
import Derived.Test.YtkcblhaldahooaaDoorJk
import Derived.Test.YtkcblhaldahooaaDoorRegT
import Derived.Test.YtkcblhaldahooaaDoorSk


/- What slices.Contains of instructions, Instrs and its iterator come to. -/
set_option linter.unusedSimpArgs false
set_option linter.unusedVariables false
namespace Go.Proofs.YtkcblhaldahooaaDoor
open Go.RowKit Go.Sort Go.Maps

end Go.Proofs.YtkcblhaldahooaaDoor


/- Instrs and its iterator, while all but the book-keeping may turn. -/
set_option linter.unusedSimpArgs false
set_option linter.unusedVariables false
namespace Go.Proofs.YtkcblhaldahooaaDoor
open Go.RowKit Go.Sort Go.Maps Go.Shelf
attribute [local go_sem] Oper.semAt_some

theorem nof_ins (l : Nat) (w : World) : (binOp .eql 115 (.func (.yield l) #[] #[]) .nilFunc).run Tryd.prog w = .ok (.bool false) w := by kernel_rfl
/-- A program's instructions, each with its block's place. -/
def flI : Nat → List BlkM → List (Nat × InsM)
  | _, [] => []
  | i, B :: r => B.ins.map (fun x => (i, x)) ++ flI (i + 1) r
/-- What Instrs' iterator goes by: C k: k items have been gone through. -/
def gI {α : Type} (zs : List α) (C : Nat → World → Prop) (m : Nat) (W : World) : Prop := ∃ k, k + m = zs.length ∧ C k W
def gY {α : Type} (zs : List α) (C : Nat → World → Prop) (m : Nat) (x : α) (W : World) : Prop := ∃ k, k + m = zs.length ∧ zs[k]? = some x ∧ C k W
theorem gI_at {α : Type} {zs : List α} {C : Nat → World → Prop} {k : Nat} {W : World} (hk : k ≤ zs.length) (h : gI zs C (zs.length - k) W) : C k W := by
  obtain ⟨j, h1, h2⟩ := h
  have : j = k := by omega
  subst this
  exact h2
def InsM.val' (x : InsM) : Value := .agg #[.int .u8 x.k, .int .u8 x.o, .int .i64 x.d, .int .i64 x.a, .int .i64 x.b, .int .i64 x.n, .int .i64 x.s]
theorem drop_step {α : Type} {zs rest : List α} {k : Nat} {x : α} (h : zs.drop k = x :: rest) : zs[k]? = some x ∧ zs.drop (k + 1) = rest ∧ k < zs.length := by
  have hl : k < zs.length := by
    rcases Nat.lt_or_ge k zs.length with h1 | h1
    · exact h1
    · rw [List.drop_of_length_le h1] at h; cases h
  rw [List.drop_eq_getElem_cons hl] at h
  injection h with h1 h2
  exact ⟨by rw [← h1]; simp, h2, hl⟩
set_option maxRecDepth 100000 in
set_option maxHeartbeats 8000000 in
/-- **The instructions, one after the other.** -/
theorem instrs_B (n : Nat) (hn : 1 ≤ n) (qb B : Nat) (v : Value) (cl : List BlkM) (C : Nat → World → Prop) (hC : ∀ k W, C k W → ProgOk W v cl) (hT : ∀ k W W', C k W → Tch [] W W' → C k W') (hB0 : ∀ W, C 0 W → W.cell? ⟨qb, 0, none⟩ = some v) :
    SeqB Fence.wide n Tryd.prog 49 #[.pointer (some ⟨qb, 0, none⟩)] (fun z : Nat × InsM => #[.int .i64 (z.1 : Int), z.2.val']) B (fun m m' => m' + 1 = m) (flI 0 cl).length (gI (flI 0 cl) C) (gY (flI 0 cl) C) (fun W => C (flI 0 cl).length W) := fun l J Jx Jd W hJI hJd hY h0 => by
  have hnf := nof_ins l
  have c0 : C 0 W := gI_at (Nat.zero_le _) (by rw [Nat.sub_zero]; exact hJI _ _ h0)
  have hb := hB0 W c0
  have hp := hC 0 W c0
  have hle := hp.b.le
  unfold maxLen at hle
  obtain ⟨ao, ac, hsv⟩ := hp.b.shape
  subst hsv
  have lq := cell_lt hb
  simp only at lq
  have HC := hid hC
  have HT := hid hT
  have HJI := hid hJI
  have HJD := hid hJd
  have HY := hid hY
  have C0 := hid c0
  have H0 := hid h0
  clear hp c0 hC hT hB0 hJI hJd hY h0
  obtain ⟨zs, hzs⟩ : ∃ zs, flI 0 cl = zs := ⟨_, rfl⟩
  rw [hzs] at HJI HJD HY H0
  have HZ := hid hzs
  clear hzs
  refine callsIn_of_wp Tryd.func49 rfl trivial ?_ rfl
  simp only [Tryd.ntmps49, List.size_toArray, List.length_cons, List.length_nil, Nat.reduceAdd, Nat.reduceSub, Array.replicate_succ, Array.replicate_zero, List.push_toArray, List.append_toArray, List.nil_append, List.cons_append]
  gi_wp2
  gi_loopw [12] (fun vi wr => ∃ (i k : Nat), vi = .int .i64 i ∧ i ≤ cl.length ∧ Hid (∃ W1, J (zs.length - k) W1 ∧ KB B W1 wr ∧ C k wr) ∧ Hid (zs.drop k = flI i (cl.drop i)) ∧ Hid (k ≤ zs.length)) (fun vi _ => cl.length - (intOf vi).toNat)
  case atStart => exact ⟨0, 0, rfl, Nat.zero_le _, ⟨W, by rw [Nat.sub_zero]; exact H0.out, KB.refl _ _, C0.out⟩, HZ.out.symm, Nat.zero_le _⟩
  case round =>
    obtain ⟨i, k, rfl, hi, HJ, HD, HK⟩ := hrel
    by_cases hlt : i < cl.length
    · obtain ⟨W1, j1, k1, ck⟩ := HJ.out
      have hp := HC.out k wr ck
      obtain ⟨b1, o1, d1, hv⟩ := hp.b.ptr (by omega)
      cases hv
      obtain ⟨X, hX⟩ : ∃ x, cl[i]? = some x := ⟨cl[i], by simp [hlt]⟩
      have mX := List.mem_of_getElem? hX
      obtain ⟨p0, p1, p2, p3, p4, p5, p6⟩ := blk_at hp.b i hX
      have lt1 : b1 < wr.heap.size := cell_lt p0
      obtain ⟨ja, jc, e2⟩ := (hp.q X mX).p.shape
      obtain ⟨ia, ic, e3⟩ := (hp.q X mX).i.shape
      have hile := (hp.q X mX).i.le
      unfold maxLen at hile
      have HXI := hid (fun k2 W2 (h : C k2 W2) => ((HC.out k2 W2 h).q X mX).i)
      rw [e3] at HXI
      have hd : cl.drop i = X :: cl.drop (i + 1) := by obtain ⟨h3, h4⟩ := List.getElem?_eq_some_iff.1 hX; rw [List.drop_eq_getElem_cons h3, h4]
      rw [hd] at HD
      have HD0 : Hid (zs.drop k = (X.ins.drop 0).map (fun x => (i, x)) ++ flI (i + 1) (cl.drop (i + 1))) := HD.out
      rw [e2] at p1
      rw [e3] at p2
      clear hX hp hd HD e2 e3
      obtain ⟨xl, xp, xq, xv, xi, xe, xa, xy, xn⟩ := X
      dsimp only at *
      have tA : Tch [] wr (wr.alloc (.cells #[.int .i64 xl, .slice ja xq.length jc, .slice ia xi.length ic, .int .u8 xe, .int .i64 xa, .int .i64 xy, .int .i64 xn] 43)) := (Tch.refl [] wr).alloc _
      have HJ0 : Hid (∃ W1, J (zs.length - k) W1 ∧ KB B W1 (wr.alloc (.cells #[.int .i64 xl, .slice ja xq.length jc, .slice ia xi.length ic, .int .u8 xe, .int .i64 xa, .int .i64 xy, .int .i64 xn] 43)) ∧ C k (wr.alloc (.cells #[.int .i64 xl, .slice ja xq.length jc, .slice ia xi.length ic, .int .u8 xe, .int .i64 xa, .int .i64 xy, .int .i64 xn] 43))) := ⟨W1, j1, k1.trans (tA.kb B (by simp)), HT.out _ _ _ ck tA⟩
      clear j1 k1 ck HJ tA
      gi_wp2
      gi_loopw [20] (fun vj wq => ∃ (j k : Nat), vj = .int .i64 j ∧ j ≤ xi.length ∧ Hid (∃ W1, J (zs.length - k) W1 ∧ KB B W1 wq ∧ C k wq) ∧ Hid (zs.drop k = (xi.drop j).map (fun x => (i, x)) ++ flI (i + 1) (cl.drop (i + 1))) ∧ Hid (k ≤ zs.length)) (fun vj _ => xi.length - (intOf vj).toNat)
      case atStart => exact ⟨0, k, rfl, Nat.zero_le _, HJ0.out, HD0.out, HK.out⟩
      case round =>
        clear HJ0 HD0 HK p0 p1 p2 p3 p4 p5 p6 lt1
        clear k
        obtain ⟨j, k, rfl, hj, HJ, HD, HK⟩ := hrel
        rename World => wq
        by_cases hlj : j < xi.length
        · obtain ⟨W1, j1, k1, ck⟩ := HJ.out
          have si := HXI.out k wq ck
          obtain ⟨b2, o2, d2, hv⟩ := si.ptr (by omega)
          cases hv
          obtain ⟨y, hy⟩ : ∃ x, xi[j]? = some x := ⟨xi[j], by simp [hlj]⟩
          obtain ⟨q0, q1, q2, q3, q4, q5, q6⟩ := ins_at si j hy
          have lt2 : b2 < wq.heap.size := cell_lt q0
          have hd2 : xi.drop j = y :: xi.drop (j + 1) := by obtain ⟨h3, h4⟩ := List.getElem?_eq_some_iff.1 hy; rw [List.drop_eq_getElem_cons h3, h4]
          rw [hd2, List.map_cons, List.cons_append] at HD
          obtain ⟨hz1, hz2, hz3⟩ := drop_step HD.out
          obtain ⟨yk, yo, yd, ya, yb, yn, ys⟩ := y
          dsimp only at *
          have tA : Tch [] wq (wq.alloc (.cells #[.int .u8 yk, .int .u8 yo, .int .i64 yd, .int .i64 ya, .int .i64 yb, .int .i64 yn, .int .i64 ys] 36)) := (Tch.refl [] wq).alloc _
          obtain ⟨fn, tmps, assign, body, hyy, hR⟩ := HY.out (zs.length - k) W1 _ (i, ⟨yk, yo, yd, ya, yb, yn, ys⟩) j1 (k1.trans (tA.kb B (by simp))) ⟨k, by omega, hz1, HT.out _ _ _ ck tA⟩
          dsimp only [InsM.val'] at hyy hR
          have HZ2 := hid hz2
          have HZ3 := hid hz3
          clear hy si hd2 HD hz1 hz2 hz3 j1 k1 ck HJ tA
          gi_wp2
          refine hR.mono ?_
          rintro e W3 (⟨rfl, m', hm', hJ3⟩ | ⟨rfl, hJx3⟩)
          · have HJ3 : Hid (J (zs.length - (k + 1)) W3) := by
              rw [show zs.length - (k + 1) = m' by have := HZ3.out; omega]; exact hJ3
            clear hJ3
            gi_wp2
            go_roundw
            case rel => exact ⟨j + 1, k + 1, by go_num, by omega, ⟨W3, HJ3.out, KB.refl _ _, gI_at (by have := HZ3.out; omega) (HJI.out _ _ HJ3.out)⟩, HZ2.out, HZ3.out⟩
            case measure => simp [intOf]; omega
          · gi_wp2
            refine bodyPost_ret (results_none rfl _ _ _) rfl ?_
            exact ⟨⟨_, rfl⟩, .inr hJx3⟩
        · have hjn : ¬ ((j : Int) < (xi.length : Int)) := by omega
          have HE : Hid (zs.drop k = flI (i + 1) (cl.drop (i + 1))) := hid (by
            have h := HD.out
            have hdn : xi.drop j = [] := List.drop_of_length_le (by omega)
            rw [hdn] at h; exact h)
          clear HD
          gi_wp2
          go_roundw
          case rel =>
            exact ⟨_, _, _, _, ⟨i + 1, by go_num, by omega, k, HJ.out, HE.out, HK.out⟩, rfl, rfl, rfl, rfl⟩
          case measure => simp [intOf]; omega
    · have hin : ¬ ((i : Int) < (cl.length : Int)) := by omega
      obtain ⟨W1, j1, k1, ck⟩ := HJ.out
      have ek : k = zs.length := by
        have h := HD.out
        have hdn : cl.drop i = [] := List.drop_of_length_le (by omega)
        rw [hdn] at h
        have h2 : zs.drop k = [] := h
        have h3 := List.drop_eq_nil_iff.1 h2
        have := HK.out
        omega
      rw [ek] at j1 ck
      rw [Nat.sub_self] at j1
      have JD := hid (HJD.out _ _ _ j1 k1 ck)
      clear j1 k1 ck ek HJ HD HK
      gi_wp2
      go_end0
      exact ⟨⟨_, rfl⟩, .inl JD.out⟩
set_option maxRecDepth 100000 in
set_option maxHeartbeats 4000000 in
/-- **Instrs.** -/
theorem instrs_any (v : Value) (bs : List BlkM) (h1 : 1 ≤ bs.length) (h2 : bs.length ≤ 1000000) (w : World) (h : ProgOk w v bs) (hz : ∀ B ∈ bs, B.ins.length ≤ 1000000 ∧ B.phis.length ≤ 1000000 ∧ BlkSm B) :
    Calls Tryd.prog 28 #[.agg #[v]] w fun e w' => ∃ qb v' cl, e = .returned (.func (.func 49) #[] #[.pointer (some ⟨qb, 0, none⟩)]) ∧ w'.heap[qb]? = some (.cells #[v'] 28 (0, 0)) ∧ OwnP w.heap.size w' v' cl ∧ cl.map BlkM.pd = bs.map BlkM.pd ∧ Gr w w' := by
  obtain ⟨va, vc, hv⟩ := h.b.shape
  have HC := hid (fun W (g : Gr w W) => cloneP_any v bs h1 h2 W (h.gr g) hz)
  subst hv
  have hbl1 := h1
  clear h hz
  go_enter Tryd.func28, Tryd.ntmps28
  go_wp2_with (go_at_call 18; refine (HC.out _ ((Gr.refl w).alloc _)).mono ?_; rintro e w2 ⟨v', cl, rfl, own, hpd, g2⟩; obtain ⟨ca, cc, hv2⟩ := own.s.shape; subst hv2; have OW := hid own; have HPD := hid hpd; have G2 := hid g2; clear own hpd g2)
  go_ret
  have g3 : Gr w2 (w2.alloc (.cells #[.slice ca cl.length cc] 28)) := (Gr.refl w2).alloc _
  exact ⟨_, _, cl, rfl, heap_alloc_new w2 _, ⟨OW.out.s.gr g3, fun k hk => by have := OW.out.v k hk; simp at this; omega, ((OW.out.l.kept g3.tch (by simp)).mono g3.size).low (by simp)⟩, HPD.out, (((Gr.refl w).alloc _).trans G2.out).trans g3⟩
end Go.Proofs.YtkcblhaldahooaaDoor


/- IrPrograms: plain. -/
set_option linter.unusedSimpArgs false
set_option linter.unusedVariables false
namespace Go.Proofs.YtkcblhaldahooaaDoor
open Go.RowKit Go.Sort Go.Maps

theorem flI_ins : ∀ {cs qs : List BlkM} (i : Nat), cs.map BlkM.ins = qs.map BlkM.ins → flI i cs = flI i qs
  | [], [], _, _ => rfl
  | [], _ :: _, _, h => by simp at h
  | _ :: _, [], _, h => by simp at h
  | C :: cs, Q :: qs, i, h => by
    simp only [List.map_cons, List.cons.injEq] at h
    rw [flI, flI, h.1, flI_ins (i + 1) h.2]
theorem flI_snd : ∀ (qs : List BlkM) (i : Nat), (flI i qs).map Prod.snd = qs.flatMap BlkM.ins
  | [], _ => rfl
  | Q :: qs, i => by
    rw [flI, List.map_append, flI_snd qs (i + 1), List.flatMap_cons]
    congr 1
    simp [Function.comp_def]
theorem flI_in : ∀ {qs : List BlkM} {i : Nat} {z : Nat × InsM}, z ∈ flI i qs → ∃ j B, z.1 = i + j ∧ qs[j]? = some B ∧ z.2 ∈ B.ins
  | [], _, _, h => by simp [flI] at h
  | Q :: qs, i, z, h => by
    rw [flI] at h
    rcases List.mem_append.1 h with h1 | h1
    · obtain ⟨x, hx, rfl⟩ := List.mem_map.1 h1
      exact ⟨0, Q, rfl, rfl, hx⟩
    · obtain ⟨j, B, h2, h3, h4⟩ := flI_in h1
      exact ⟨j + 1, B, by omega, by simpa using h3, h4⟩
theorem pd_ins {cs qs : List BlkM} (h : cs.map BlkM.pd = qs.map BlkM.pd) : cs.map BlkM.ins = qs.map BlkM.ins := by
  have h2 := congrArg (List.map fun p : Int × List (Int × List Int × List Int) × List InsM × Int × Int × Int × Int => p.2.2.1) h
  simpa [List.map_map, Function.comp_def, BlkM.pd] using h2
/-- The order does not matter. -/
theorem seeL_bound : ∀ (l : List Int) (n b : Int), seeL n l ≤ b ↔ n ≤ b ∧ ∀ r ∈ l, r + 1 ≤ b
  | [], n, b => by simp [seeL]
  | r :: l, n, b => by
    show seeL (max n (r + 1)) l ≤ b ↔ _
    rw [seeL_bound l]
    simp only [List.mem_cons, forall_eq_or_imp]
    constructor
    · rintro ⟨h1, h2⟩
      exact ⟨by omega, by omega, h2⟩
    · rintro ⟨h1, h2, h3⟩
      exact ⟨by omega, h3⟩
theorem seeL_memP {l m : List Int} (h : ∀ x, x ∈ l ↔ x ∈ m) (n : Int) : seeL n l = seeL n m := by
  have h1 := (seeL_bound l n (seeL n m)).2 ⟨seeL_ge m n, fun r hr => ((seeL_bound m n _).1 (Int.le_refl _)).2 r ((h r).1 hr)⟩
  have h2 := (seeL_bound m n (seeL n l)).2 ⟨seeL_ge l n, fun r hr => ((seeL_bound l n _).1 (Int.le_refl _)).2 r ((h r).2 hr)⟩
  omega
theorem regsF_flat : ∀ (bs : List BlkM) (n : Int), 0 ≤ n → regsF n bs = seeL n (bs.flatMap regsL)
  | [], n, _ => rfl
  | B :: bs, n, hn => by
    show regsF (max n (seeL 0 (regsL B))) bs = _
    rw [List.flatMap_cons, seeL_app, regsF_flat bs _ (by omega)]
    congr 1
    rw [← seeL_max]
    congr 1
    omega
/-- What the statement looks at, of an instruction, of a block. -/
def insS (x : InsM) : List Int := rds x.k x.a x.b ++ (if kbb x.k 1 then [io x.k 1 x.d] else [])
def blkS (B : BlkM) : List Int := B.ins.flatMap insS ++ lastR B
theorem insS_mem (x : InsM) (r : Int) : r ∈ insS x ↔ r ∈ insR x := by
  unfold insS insR
  rw [List.mem_append, List.mem_append]
  exact Or.comm
theorem blkS_mem (B : BlkM) (r : Int) : r ∈ regsL B ↔ r ∈ B.phis.flatMap phiR ∨ r ∈ blkS B := by
  unfold regsL blkS
  simp only [List.mem_append, List.mem_flatMap, insS_mem]
  constructor
  · rintro ((h | h) | h)
    · exact .inl h
    · exact .inr (.inl h)
    · exact .inr (.inr h)
  · rintro (h | h | h)
    · exact .inl (.inl h)
    · exact .inl (.inr h)
    · exact .inr h
/-- The phi and the program with it. -/
theorem regs_q {Q0 : BlkM} {rest : List BlkM} {f : PhiM} (h0 : Q0.phis = [f]) (hr : ∀ B ∈ rest, B.phis = []) : seeL 0 ((Q0 :: rest).flatMap blkS ++ [f.d] ++ f.arg) = regsT (Q0 :: rest) := by
  unfold regsT
  rw [regsF_flat _ 0 (Int.le_refl _)]
  refine seeL_memP (fun x => ?_) 0
  have h1 : x ∈ rest.flatMap regsL ↔ x ∈ rest.flatMap blkS := by
    rw [List.mem_flatMap, List.mem_flatMap]
    constructor
    · rintro ⟨B, hB, h⟩
      rw [blkS_mem, hr B hB] at h
      exact ⟨B, hB, by simpa using h⟩
    · rintro ⟨B, hB, h⟩
      exact ⟨B, hB, by rw [blkS_mem]; exact .inr h⟩
  rw [List.flatMap_cons, List.flatMap_cons]
  simp only [List.mem_append, h1, blkS_mem, h0, List.flatMap_cons, List.flatMap_nil, List.append_nil, phiR, List.mem_cons, List.mem_singleton, List.not_mem_nil, or_false]
  constructor
  · rintro (((h | h) | h) | h)
    · exact .inl (.inr h)
    · exact .inr h
    · exact .inl (.inl (.inl h))
    · exact .inl (.inl (.inr h))
  · rintro (((h | h) | h) | h)
    · exact .inl (.inr h)
    · exact .inr h
    · exact .inl (.inl (.inl h))
    · exact .inl (.inl (.inr h))
/-- Rising. -/
def riseL : List Int → Prop
  | x :: y :: r => x < y ∧ riseL (y :: r)
  | _ => True
theorem srtB_cons {x y : Int} {r : List Int} : srtB (x :: y :: r) ↔ x ≤ y ∧ srtB (y :: r) := by
  constructor
  · intro h
    refine ⟨by simpa using h 0 (by simp), fun j hj => ?_⟩
    have := h (j + 1) (by simpa using hj)
    simpa using this
  · rintro ⟨h1, h2⟩ j hj
    cases j with
    | zero => simpa using h1
    | succ j => have := h2 j (by simpa using hj); simpa using this
theorem rise_srt : ∀ {l : List Int}, l.Nodup → (riseL l ↔ srtB l)
  | [], _ => ⟨fun _ j h => by simp at h, fun _ => trivial⟩
  | [x], _ => ⟨fun _ j h => by simp at h, fun _ => trivial⟩
  | x :: y :: r, h => by
    rw [srtB_cons, riseL, rise_srt (List.nodup_cons.1 h).2]
    have hne : ¬ x = y := fun e => (List.nodup_cons.1 h).1 (by simp [e])
    constructor
    · rintro ⟨h1, h2⟩; exact ⟨by omega, h2⟩
    · rintro ⟨h1, h2⟩; exact ⟨by omega, h2⟩
theorem ents_iff {labs : List Int} : ∀ (l rs : List Int) (p : Int), l.length = rs.length → (∀ x ∈ l, x ∈ labs) → (∀ r ∈ rs, regB r = true) → (entsE labs false p l rs = 0 ↔ riseL (p :: l))
  | [], [], p, _, _, _ => by simp [entsE, riseL]
  | [], _ :: _, _, h, _, _ => by simp at h
  | _ :: _, [], _, h, _, _ => by simp at h
  | x :: l, r :: rs, p, h, hl, hr => by
    rw [entsE]
    have e : entE labs false p x r = if x ≤ p then 8 else 0 := by
      unfold entE
      rw [if_neg (by simpa using hl x (by simp)), hr r (by simp)]
      simp
    rw [e, riseL]
    by_cases hp : x ≤ p
    · rw [if_pos hp]
      simp
      intro h1; omega
    · rw [if_neg hp]
      simp only [if_true]
      rw [ents_iff l rs x (by simpa using h) (fun z hz => hl z (by simp [hz])) (fun z hz => hr z (by simp [hz]))]
      exact ⟨fun h1 => ⟨by omega, h1⟩, fun h1 => h1.2⟩
theorem ents_first {labs : List Int} {l rs : List Int} (h : l.length = rs.length) (hl : ∀ x ∈ l, x ∈ labs) (hr : ∀ r ∈ rs, regB r = true) : entsE labs true 0 l rs = 0 ↔ riseL l := by
  cases l with
  | nil => cases rs <;> simp [entsE, riseL]
  | cons x l =>
    cases rs with
    | nil => simp at h
    | cons r rs =>
      rw [entsE]
      have e : entE labs true 0 x r = 0 := by
        unfold entE
        rw [if_neg (by simpa using hl x (by simp)), hr r (by simp)]
        simp
      rw [e, if_pos rfl]
      exact ents_iff l rs x (by simpa using h) (fun z hz => hl z (by simp [hz])) (fun z hz => hr z (by simp [hz]))
theorem firstE_cons (x : Int) (l : List Int) (h : ∀ y ∈ l, y = 0) : firstE (x :: l) = x := by
  unfold firstE
  split
  · rename_i h0; rw [firstE_zeros l h, h0]
  · rfl
/-- A small program, a phi in its first block. -/
theorem check_q {s : SmlM} {bs qs rest : List BlkM} {Q0 : BlkM} {f : PhiM} (h8 : s.bs.length ≤ 8) (h : Prog1 s bs) (hq : qs = Q0 :: rest) (hab : qs.map BlkM.ab = bs.map BlkM.ab) (h0 : Q0.phis = [f]) (hr : ∀ B ∈ rest, B.phis = [])
    (hl : f.frm.length = f.arg.length) (hd : regB f.d = true) (hf : ∀ x ∈ f.frm, x ∈ labsOf bs) (ha : ∀ r ∈ f.arg, regB r = true) (hn : f.frm.Nodup) :
    (checkE qs = 0 ↔ srtB f.frm) ∧ countM qs = countM bs + 1 ∧ (∀ B ∈ qs, BlkWf B) ∧ labsOf qs = labsOf bs := by
  have hlab : labsOf qs = labsOf bs := by
    have h2 := congrArg (List.map ABlk.lab) hab
    simpa [labsOf, List.map_map, Function.comp_def, BlkM.ab] using h2
  have hins : qs.map BlkM.ins = bs.map BlkM.ins := by
    have h2 := congrArg (List.map ABlk.ins) hab
    simpa [List.map_map, Function.comp_def, BlkM.ab] using h2
  have hlen : qs.length = bs.length := by simpa using congrArg List.length hab
  have hgood : ∀ B ∈ qs, Good (progL s) B.ab := fun B hB => by
    have h2 : B.ab ∈ bs.map BlkM.ab := by rw [← hab]; exact List.mem_map.2 ⟨B, hB, rfl⟩
    obtain ⟨C, hC, e⟩ := List.mem_map.1 h2
    rw [← e]; exact h.g C hC
  have cnt : ∀ (l m : List BlkM), l.map BlkM.ins = m.map BlkM.ins → (∀ B ∈ l, B.phis = []) → (∀ B ∈ m, B.phis = []) → countM l = countM m := by
    intro l
    induction l with
    | nil => intro m e _ _; cases m with | nil => rfl | cons _ _ => simp at e
    | cons X l ih =>
      intro m e hx hm
      cases m with
      | nil => simp at e
      | cons Y m =>
        simp only [List.map_cons, List.cons.injEq] at e
        have h3 := ih m e.2 (fun B hB => hx B (by simp [hB])) (fun B hB => hm B (by simp [hB]))
        unfold countM at h3 ⊢
        simp only [List.map_cons, List.sum_cons]
        rw [h3, e.1, hx X (by simp), hm Y (by simp)]
  have hcm : countM qs = countM bs + 1 := by
    have h3 := cnt ({ Q0 with phis := [] } :: rest) bs (by rw [← hins, hq]; rfl) (fun B hB => by
      rcases List.mem_cons.1 hB with rfl | hB
      · rfl
      · exact hr B hB) h.p
    rw [← h3, hq]
    unfold countM
    simp only [List.map_cons, List.sum_cons, h0, List.length_cons, List.length_nil]
    omega
  have hwf : ∀ B ∈ qs, BlkWf B := fun B hB => by
    have g := hgood B hB
    refine ⟨g.b, g.y, g.n, fun q hq2 z hz => ?_, fun q hq2 => (g.i q hq2).2⟩
    rw [hq] at hB
    rcases List.mem_cons.1 hB with rfl | hB
    · rw [h0] at hq2
      simp at hq2; subst hq2
      have h4 := hf z hz
      rw [h.l] at h4
      exact wf_small (progL_small h8 h4)
    · rw [hr B hB] at hq2; simp at hq2
  refine ⟨?_, hcm, hwf, hlab⟩
  have hc := h.count h8
  have hbl : 1 ≤ bs.length ∧ bs.length ≤ 8 := by rw [h.n]; exact len_in s h8
  unfold checkE
  rw [hlen, if_neg (by omega), hcm, if_neg (by omega), hlab, h.l]
  have hlz : labsE (progL s) [] = 0 := labsE_ok _ _ (fun x hx => progL_small h8 hx) (progL_nodup s) (by simp)
  rw [if_neg (by simpa using hlz), hq, List.map_cons]
  have hrest : ∀ y ∈ rest.map (blkE (progL s)), y = 0 := fun y hy => by
    obtain ⟨B, hB, rfl⟩ := List.mem_map.1 hy
    exact good_blk (hr B hB) (hgood B (by rw [hq]; simp [hB]))
  rw [firstE_cons _ _ hrest]
  have g0 := hgood Q0 (by rw [hq]; simp)
  unfold blkE
  rw [h0, List.map_cons, List.map_nil, List.cons_append, List.cons_append, List.nil_append, firstE_cons _ _ (fun y hy => by
    rcases List.mem_append.1 hy with h5 | h5
    · obtain ⟨q, hq2, rfl⟩ := List.mem_map.1 h5; exact (g0.i q hq2).1
    · simp at h5; subst h5; exact g0.l)]
  unfold phiE
  rw [if_neg (by simpa using hl), hd, if_neg (by simp), ents_first hl (fun x hx => by rw [← h.l]; exact hf x hx) ha]
  exact rise_srt hn
end Go.Proofs.YtkcblhaldahooaaDoor

