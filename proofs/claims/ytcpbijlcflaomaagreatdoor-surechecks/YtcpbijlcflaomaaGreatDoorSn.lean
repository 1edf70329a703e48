/- Joined: PhI, PhM, PhP, PhW, PhC. -/
import Derived.Test.YtcpbijlcflaomaaGreatDoorGp
import Derived.Test.YtcpbijlcflaomaaGreatDoorSk
import Derived.Test.YtcpbijlcflaomaaGreatDoorSc
import Derived.Test.YtcpbijlcflaomaaGreatDoorGa
import Derived.Test.YtcpbijlcflaomaaGreatDoorSm
import Derived.Test.YtcpbijlcflaomaaGreatDoorJk
import Derived.Test.YtcpbijlcflaomaaGreatDoorLc
import Derived.Test.YtcpbijlcflaomaaGreatDoorSf


/- slices.ContainsFunc of phis, by what they set. -/
set_option linter.unusedSimpArgs false
set_option linter.unusedVariables false
namespace Go.Proofs.YtcpbijlcflaomaaGreatDoor
open Go.RowKit Go.Sort Go.Maps

/-- What phis set. -/
def dstsP (ps : List PhiM) : List Int := ps.map PhiM.d
set_option maxRecDepth 100000 in
set_option maxHeartbeats 1000000 in
theorem phis1_any (d : Int) (fa aa : Option Addr) (fn fc an ac : Nat) (x : Int) (cb : Nat) (w : World) (hc : w.cell? ⟨cb, 0, none⟩ = some (.int .i64 x)) :
    Calls Tryz.prog 43 #[.agg #[.int .i64 d, .slice fa fn fc, .slice aa an ac], .pointer (some ⟨cb, 0, none⟩)] w fun r w' => r = .returned (.bool (d == x)) ∧ Gr w w' := by
  have lc := cell_lt hc
  simp only at lc
  go_enter Tryz.func43, Tryz.ntmps43
  go_wp2
  go_ret
  exact ⟨rfl, (Gr.refl w).alloc _⟩
set_option maxRecDepth 100000 in
set_option maxHeartbeats 4000000 in
theorem idxphi_any (cb : Nat) (l : Int) {v : Value} {ps : List PhiM} {w : World} (hs : Sl w 100 3 v ps.length (phiC ps)) (hl : ps.length ≤ 1000) (hz : ∀ f ∈ ps, PhiOk w f) (hc : w.cell? ⟨cb, 0, none⟩ = some (.int .i64 l)) :
    Calls Tryz.prog 65 #[v, .func (.func 43) #[] #[.pointer (some ⟨cb, 0, none⟩)]] w fun e w' => e = .returned (.int .i64 ((posN (dstsP ps) l).getD (-1))) ∧ Gr w w' := by
  obtain ⟨va, vc, hv⟩ := hs.shape
  subst hv
  have HS := hid hs
  have HC := hid hc
  have HZ := hid hz
  obtain ⟨RES, hR⟩ : ∃ R, (posN (dstsP ps) l).getD (-1) = R := ⟨_, rfl⟩
  rw [hR]
  have HR := hid hR
  clear hs hc hR hz
  go_enter Tryz.func65, Tryz.ntmps65
  go_wp2_with fail
  go_loopw [5, 8] (fun _ i wr => ∃ k : Nat, k ≤ ps.length ∧ i = .int .i64 k ∧ Hid (∀ j, j < k → ¬ (dstsP ps)[j]? = some l) ∧ Hid (Gr w wr)) (fun _ i _ => ps.length - (intOf i).toNat)
  case atStart => exact ⟨0, Nat.zero_le _, rfl, fun j hj => absurd hj (Nat.not_lt_zero _), Gr.refl _⟩
  case round =>
    obtain ⟨k, hk, rfl, A, G⟩ := hrel
    by_cases hlk : k < ps.length
    · obtain ⟨B, hB⟩ : ∃ B, ps[k]? = some B := ⟨ps[k], by simp [hlk]⟩
      obtain ⟨fa, fc, hpv⟩ := (HZ.out B (List.mem_of_getElem? hB)).f.shape
      obtain ⟨aa, ac, hiv⟩ := (HZ.out B (List.mem_of_getElem? hB)).a.shape
      have sx := HS.out.gr G.out
      obtain ⟨b3, o3, d3, hv⟩ := sx.ptr (Nat.zero_lt_of_lt hlk)
      cases hv
      have HLB : Hid ((dstsP ps)[k]? = some B.d) := by show _ = _; unfold dstsP; rw [List.getElem?_map, hB]; rfl
      obtain ⟨y0, y1, y2⟩ := phi_at sx k hB
      rw [hpv] at y1
      rw [hiv] at y2
      obtain ⟨fn, hfn⟩ : ∃ n, B.frm.length = n := ⟨_, rfl⟩
      obtain ⟨an, han⟩ : ∃ n, B.arg.length = n := ⟨_, rfl⟩
      rw [hfn] at y1
      rw [han] at y2
      obtain ⟨d, hd⟩ : ∃ d, B.d = d := ⟨_, rfl⟩
      rw [hd] at y0 HLB
      have lt3 : b3 < wr.heap.size := cell_lt y0
      have HC1 := hid (phis1_any d fa aa fn fc an ac l cb wr (G.out.val HC.out))
      clear sx hB hpv hiv hfn han hd
      by_cases hx : d = l
      · rw [show (d == l) = true by simpa using hx] at HC1
        have E : Hid (RES = (k : Int)) := by show _ = _; rw [← HR.out, posN_at (hx ▸ HLB.out) A.out]; rfl
        clear hx
        go_wp2_with (go_at_call 43; refine HC1.out.mono ?_; rintro e x1 ⟨rfl, g1⟩; have G1 := hid (G.out.trans g1); clear g1)
        go_ret
        exact ⟨by rw [E.out]; rfl, G1.out⟩
      · rw [show (d == l) = false by simpa using hx] at HC1
        have E : Hid (∀ j, j < k + 1 → ¬ (dstsP ps)[j]? = some l) := fun j hj => by
          rcases Nat.lt_or_ge j k with h | h
          · exact A.out j h
          · obtain rfl : j = k := by omega
            rw [HLB.out]; simpa using hx
        clear hx
        go_wp2_with (go_at_call 43; refine HC1.out.mono ?_; rintro e x1 ⟨rfl, g1⟩; have G1 := hid (G.out.trans g1); clear g1)
        go_roundw
        case rel => exact ⟨k + 1, by omega, by simp, E, G1⟩
        case measure => simp [intOf]; omega
    · obtain rfl : k = ps.length := by omega
      have E : Hid (RES = -1) := by show _ = _; rw [← HR.out, posN_none (fun j hj => A.out j (by simpa [dstsP] using hj))]; rfl
      go_wp2_with fail
      go_ret
      exact ⟨by rw [E.out]; rfl, G.out⟩
set_option maxRecDepth 100000 in
/-- **ContainsFunc** of phis. -/
theorem cfphi_any (cb : Nat) (l : Int) {v : Value} {ps : List PhiM} {w : World} (hs : Sl w 100 3 v ps.length (phiC ps)) (hl : ps.length ≤ 1000) (hz : ∀ f ∈ ps, PhiOk w f) (hc : w.cell? ⟨cb, 0, none⟩ = some (.int .i64 l)) :
    Calls Tryz.prog 42 #[v, .func (.func 43) #[] #[.pointer (some ⟨cb, 0, none⟩)]] w fun e w' => e = .returned (.bool (decide (l ∈ dstsP ps))) ∧ Gr w w' := by
  have HI := hid (idxphi_any cb l hs hl hz hc)
  by_cases hm : l ∈ dstsP ps
  · have hp : posN (dstsP ps) l = some (((dstsP ps).idxOf l : Nat) : Int) := by unfold posN; rw [if_pos hm]
    obtain ⟨q, hq⟩ : ∃ q : Nat, (dstsP ps).idxOf l = q := ⟨_, rfl⟩
    rw [hp, hq] at HI
    simp only [Option.getD_some] at HI
    rw [decide_eq_true hm]
    have h0 : (0 : Int) ≤ (q : Int) := by omega
    clear hp hq hm hs hz hc
    go_enter Tryz.func42, Tryz.ntmps42
    go_wp2_with (go_at_call 65; refine HI.out.mono ?_; rintro e x1 ⟨rfl, g1⟩)
    go_ret
    exact ⟨by simp, g1⟩
  · have hp : posN (dstsP ps) l = none := by unfold posN; rw [if_neg hm]
    rw [hp] at HI
    simp only [Option.getD_none] at HI
    rw [decide_eq_false hm]
    clear hp hm hs hz hc
    go_enter Tryz.func42, Tryz.ntmps42
    go_wp2_with (go_at_call 65; refine HI.out.mono ?_; rintro e x1 ⟨rfl, g1⟩)
    go_ret
    exact ⟨by simp, g1⟩
end Go.Proofs.YtcpbijlcflaomaaGreatDoor


/- Phis that are put into a program of the call's own: memory. -/
set_option linter.unusedSimpArgs false
set_option linter.unusedVariables false
namespace Go.Proofs.YtcpbijlcflaomaaGreatDoor
open Go.RowKit Go.Sort Go.Maps

theorem sl_obT {w : World} {e : TypeId} {sz m : Nat} {v : Value} {cs : List Value} (h : Sl w e sz v m cs) : ∀ b ∈ blks v, ∃ cur, w.heap[b]? = some (.cells cur e (0, 0)) := fun b hb => by
  obtain ⟨_, ⟨e1, _⟩ | ⟨b', off', cap, cur, e1, e2, _⟩⟩ := h
  · rw [e1] at hb; simp [blks] at hb
  · rw [e1] at hb
    simp [blks] at hb
    subst hb
    exact ⟨_, e2⟩
/-- A program at V, the blocks' array at cb; its phis lie in blocks of their own, from w5 on. -/
structure PhS (w5 w : World) (cb co cc n : Nat) (bs : List BlkM) : Prop where
  len : bs.length = n
  b : Sl w 52 7 (.slice (some ⟨cb, co, none⟩) n cc) n (blkC bs)
  p : ∀ B ∈ bs, Sl w 100 3 B.pv B.phis.length (phiC B.phis)
  f : ∀ B ∈ bs, ∀ f ∈ B.phis, PhiOk w f
  i : ∀ B ∈ bs, Sl w 56 7 B.iv B.ins.length (insC B.ins)
  op : ∀ B ∈ bs, ∀ k ∈ blks B.pv, w5.heap.size ≤ k
  pp : ∀ (i j : Nat) (A B : BlkM), bs[i]? = some A → bs[j]? = some B → ¬ i = j → ∀ k ∈ blks A.pv, ¬ k ∈ blks B.pv
  pz : ∀ B ∈ bs, B.phis = [] → B.pv = .slice none 0 0
  lb : cb < w5.heap.size
  t : Tch [cb] w5 w
/-- Items of another type lie as they lay. -/
theorem sl_type {w w' : World} {e T : TypeId} {sz m : Nat} {v : Value} {cs : List Value} (h : Sl w e sz v m cs) {S : List Nat} (t : Tch S w w') (hS : ∀ k ∈ S, ∃ cur, w.heap[k]? = some (.cells cur T (0, 0))) (hne : ¬ e = T) : Sl w' e sz v m cs :=
  h.kept t (fun k hk hm => by
    obtain ⟨c1, h1⟩ := sl_obT h k hk
    obtain ⟨c2, h2⟩ := hS k hm
    injection Option.some.inj (h1.symm.trans h2) with e1 e2
    exact hne e2)
section
variable {w5 w w' w1 : World} {cb co cc n : Nat} {bs : List BlkM}
theorem PhS.tch (h : PhS w5 w cb co cc n bs) (t : Tch [] w w') : PhS w5 w' cb co cc n bs :=
  ⟨h.len, h.b.kept t (by simp), fun B hB => (h.p B hB).kept t (by simp), fun B hB f hf => ⟨(h.f B hB f hf).f.kept t (by simp), (h.f B hB f hf).a.kept t (by simp)⟩, fun B hB => (h.i B hB).kept t (by simp), h.op, h.pp, h.pz, h.lb, h.t.trans (t.mono (by simp))⟩
theorem PhS.cbo (h : PhS w5 w cb co cc n bs) : ∃ cur, w.heap[cb]? = some (.cells cur 52 (0, 0)) := by
  exact sl_obT h.b cb (by simp [blks])
theorem PhS.ok (h : PhS w5 w cb co cc n bs) : ProgOk w (.slice (some ⟨cb, co, none⟩) n cc) bs :=
  ⟨by rw [h.len]; exact h.b, fun B hB => ⟨h.p B hB, h.f B hB, h.i B hB⟩⟩
/-- A new block of memory is turned: numbers that are no program's yet. -/
theorem PhS.far (h : PhS w5 w cb co cc n bs) {S : List Nat} (t : Tch S w w') (hS : ∀ k ∈ S, w5.heap.size ≤ k ∧ (∀ B ∈ bs, ¬ k ∈ blks B.pv ∧ ∀ f ∈ B.phis, ¬ k ∈ blks f.fv ∧ ¬ k ∈ blks f.av) ∧ ∀ B ∈ bs, ¬ k ∈ blks B.iv) : PhS w5 w' cb co cc n bs :=
  ⟨h.len, h.b.kept t (fun k hk hm => by simp [blks] at hk; subst hk; have := (hS _ hm).1; have := h.lb; omega), fun B hB => (h.p B hB).kept t (fun k hk hm => ((hS k hm).2.1 B hB).1 hk), fun B hB f hf => ⟨(h.f B hB f hf).f.kept t (fun k hk hm => (((hS k hm).2.1 B hB).2 f hf).1 hk), (h.f B hB f hf).a.kept t (fun k hk hm => (((hS k hm).2.1 B hB).2 f hf).2 hk)⟩, fun B hB => (h.i B hB).kept t (fun k hk hm => (hS k hm).2.2 B hB hk), h.op, h.pp, h.pz, h.lb, h.t.trans2 t (fun k hk => .inr (hS k hk).1)⟩
/-- A program with phis of the call's own; w0: the world ahead of it. -/
structure PhO (w0 w : World) (cb co cc n : Nat) (bs : List BlkM) : Prop where
  len : bs.length = n
  b : Sl w 52 7 (.slice (some ⟨cb, co, none⟩) n cc) n (blkC bs)
  p : ∀ B ∈ bs, Sl w 100 3 B.pv B.phis.length (phiC B.phis)
  f : ∀ B ∈ bs, ∀ f ∈ B.phis, PhiOk w f
  i : ∀ B ∈ bs, Sl w 56 7 B.iv B.ins.length (insC B.ins)
  op : ∀ B ∈ bs, ∀ k ∈ blks B.pv, w0.heap.size ≤ k
  pp : ∀ (i j : Nat) (A B : BlkM), bs[i]? = some A → bs[j]? = some B → ¬ i = j → ∀ k ∈ blks A.pv, ¬ k ∈ blks B.pv
  pz : ∀ B ∈ bs, B.phis = [] → B.pv = .slice none 0 0
  ob : w0.heap.size ≤ cb
theorem PhO.ok {w0 : World} (h : PhO w0 w cb co cc n bs) : ProgOk w (.slice (some ⟨cb, co, none⟩) n cc) bs :=
  ⟨by rw [h.len]; exact h.b, fun B hB => ⟨h.p B hB, h.f B hB, h.i B hB⟩⟩
theorem PhO.tch {w0 : World} (h : PhO w0 w cb co cc n bs) (t : Tch [] w w') : PhO w0 w' cb co cc n bs :=
  ⟨h.len, h.b.kept t (by simp), fun B hB => (h.p B hB).kept t (by simp), fun B hB f hf => ⟨(h.f B hB f hf).f.kept t (by simp), (h.f B hB f hf).a.kept t (by simp)⟩, fun B hB => (h.i B hB).kept t (by simp), h.op, h.pp, h.pz, h.ob⟩
/-- A box of a program is turned. -/
theorem PhS.prg (h : PhS w5 w cb co cc n bs) {w0 : World} {b : Nat} {cur : Array Value} (t : Tch [b] w w') (ho : w.heap[b]? = some (.cells cur 28 (0, 0))) (h5 : w0.heap.size ≤ w5.heap.size) (hc : w0.heap.size ≤ cb) : PhO w0 w' cb co cc n bs := by
  have hS : ∀ k ∈ [b], ∃ cur, w.heap[k]? = some (.cells cur 28 (0, 0)) := fun k hk => by simp at hk; subst hk; exact ⟨cur, ho⟩
  exact ⟨h.len, sl_type h.b t hS (by decide), fun B hB => sl_type (h.p B hB) t hS (by decide), fun B hB f hf => ⟨sl_type (h.f B hB f hf).f t hS (by decide), sl_type (h.f B hB f hf).a t hS (by decide)⟩, fun B hB => sl_type (h.i B hB) t hS (by decide), fun B hB k hk => Nat.le_trans h5 (h.op B hB k hk), h.pp, h.pz, hc⟩
theorem set_mem {i : Nat} {B C : BlkM} (hi : i < bs.length) (hC : C ∈ bs.set i B) : C = B ∨ ∃ j, ¬ j = i ∧ bs[j]? = some C := by
  obtain ⟨j, hj⟩ := List.getElem?_of_mem hC
  rw [List.getElem?_set] at hj
  split at hj
  · rename_i e
    subst e
    simp [hi] at hj
    exact .inl hj.symm
  · rename_i e
    exact .inr ⟨j, fun h => e h.symm, hj⟩
theorem set_split {i : Nat} {B B' : BlkM} (hB : bs[i]? = some B) : bs = bs.take i ++ B :: bs.drop (i + 1) ∧ bs.set i B' = bs.take i ++ B' :: bs.drop (i + 1) ∧ (bs.take i).length = i := by
  obtain ⟨hi, e⟩ := List.getElem?_eq_some_iff.1 hB
  have h1 := List.drop_eq_getElem_cons hi
  rw [e] at h1
  have h2 : (bs.take i).length = i := by simp; omega
  have h3 : bs = bs.take i ++ B :: bs.drop (i + 1) := by rw [← h1, List.take_append_drop]
  refine ⟨h3, ?_, h2⟩
  apply List.ext_getElem?
  intro j
  rw [List.getElem?_set]
  by_cases e1 : i = j
  · subst e1
    rw [if_pos rfl, if_pos hi, List.getElem?_append_right (by omega), h2]; simp
  · rw [if_neg e1]
    by_cases e2 : j < i
    · rw [List.getElem?_append_left (by omega), List.getElem?_take, if_pos e2]
    · rw [List.getElem?_append_right (by omega), h2, show j - i = (j - (i + 1)) + 1 by omega, List.getElem?_cons_succ, List.getElem?_drop, show i + 1 + (j - (i + 1)) = j by omega]
/-- **A phi is put in.** -/
theorem PhS.app (h : PhS w5 w cb co cc n bs) {i : Nat} {B : BlkM} (hB : bs[i]? = some B) {f : PhiM} {v2 : Value} (hf : PhiOk w f) (s : Sl w1 100 3 v2 (B.phis ++ [f]).length (phiC (B.phis ++ [f]))) (t : Tch (blks B.pv) w w1) (hb : ∀ k ∈ blks v2, k ∈ blks B.pv ∨ w.heap.size ≤ k) :
    PhS w5 (w1.setCell ⟨cb, co + i * 7 + 1, none⟩ v2) cb co cc n (bs.set i { B with pv := v2, phis := B.phis ++ [f] }) := by
  have hi : i < bs.length := (List.getElem?_eq_some_iff.1 hB).1
  have mB := List.mem_of_getElem? hB
  obtain ⟨e1, e2, e3⟩ := set_split (B' := { B with pv := v2, phis := B.phis ++ [f] }) hB
  have hS : ∀ k ∈ blks B.pv, ∃ cur, w.heap[k]? = some (.cells cur 100 (0, 0)) := fun k hk => sl_obT (h.p B mB) k hk
  have b1 := sl_type h.b t hS (by decide)
  have hcb : ∀ k ∈ [cb], ∃ cur, w1.heap[k]? = some (.cells cur 52 (0, 0)) := fun k hk => by
    simp at hk; subst hk
    exact sl_obT b1 _ (by simp [blks])
  have tc : Tch [cb] w1 (w1.setCell ⟨cb, co + i * 7 + 1, none⟩ v2) := (Tch.refl [cb] w1).setCell (p := ⟨cb, co + i * 7 + 1, none⟩) (.inl (by simp)) _
  have two : ∀ {e : TypeId} {sz m : Nat} {v : Value} {cs : List Value}, Sl w e sz v m cs → ¬ e = 100 → ¬ e = 52 → Sl (w1.setCell ⟨cb, co + i * 7 + 1, none⟩ v2) e sz v m cs := fun s h1 h2 => sl_type (sl_type s t hS h1) tc hcb h2
  have okp : ∀ g, PhiOk w g → PhiOk (w1.setCell ⟨cb, co + i * 7 + 1, none⟩ v2) g := fun g hg => ⟨two hg.f (by decide) (by decide), two hg.a (by decide) (by decide)⟩
  have oth : ∀ (j : Nat) (C : BlkM), ¬ j = i → bs[j]? = some C → Sl (w1.setCell ⟨cb, co + i * 7 + 1, none⟩ v2) 100 3 C.pv C.phis.length (phiC C.phis) := fun j C hj hC =>
    sl_type ((h.p C (List.mem_of_getElem? hC)).kept t (fun k hk hm => h.pp j i C B hC hB hj k hk hm)) tc hcb (by decide)
  have lts : ∀ (C : BlkM), C ∈ bs → ∀ k ∈ blks C.pv, k < w.heap.size := fun C hC k hk => (h.p C hC).lt k hk
  refine ⟨by rw [List.length_set]; exact h.len, ?_, fun C hC => ?_, fun C hC g hg => ?_, fun C hC => ?_, fun C hC k hk => ?_, fun a b A C hA hC hab k hk hm => ?_, fun C hC h0 => ?_, h.lb, ?_⟩
  · rw [e2]
    rw [e1] at b1
    exact sl_mid e3 b1 1 (by omega) v2 rfl
  · rcases set_mem hi hC with rfl | ⟨j, hj, h2⟩
    · exact sl_type s tc hcb (by decide)
    · exact oth j C hj h2
  · rcases set_mem hi hC with rfl | ⟨j, hj, h2⟩
    · rcases List.mem_append.1 hg with h3 | h3
      · exact okp g (h.f B mB g h3)
      · simp at h3; subst h3; exact okp _ hf
    · exact okp g (h.f C (List.mem_of_getElem? h2) g hg)
  · rcases set_mem hi hC with rfl | ⟨j, hj, h2⟩
    · exact two (h.i B mB) (by decide) (by decide)
    · exact two (h.i C (List.mem_of_getElem? h2)) (by decide) (by decide)
  · rcases set_mem hi hC with rfl | ⟨j, hj, h2⟩
    · rcases hb k hk with h3 | h3
      · exact h.op B mB k h3
      · exact Nat.le_trans h.t.size h3
    · exact h.op C (List.mem_of_getElem? h2) k hk
  · rw [List.getElem?_set] at hA hC
    by_cases ea : i = a
    · subst ea
      rw [if_pos rfl, if_pos hi] at hA
      cases hA
      rw [if_neg hab] at hC
      rcases hb k hk with h3 | h3
      · exact h.pp i b B C hB hC hab k h3 hm
      · have := lts C (List.mem_of_getElem? hC) k hm; omega
    · rw [if_neg ea] at hA
      by_cases eb : i = b
      · subst eb
        rw [if_pos rfl, if_pos hi] at hC
        cases hC
        rcases hb k hm with h3 | h3
        · exact h.pp a i A B hA hB hab k hk h3
        · have := lts A (List.mem_of_getElem? hA) k hk; omega
      · rw [if_neg eb] at hC
        exact h.pp a b A C hA hC hab k hk hm
  · rcases set_mem hi hC with rfl | ⟨j, hj, h2⟩
    · simp at h0
    · exact h.pz C (List.mem_of_getElem? h2) h0
  · exact (h.t.trans2 t (fun k hk => .inr (h.op B mB k hk))).trans2 tc (fun k hk => .inl hk)
end
end Go.Proofs.YtcpbijlcflaomaaGreatDoor


/- Phis that are put into a program: plain. -/
set_option linter.unusedSimpArgs false
set_option linter.unusedVariables false
namespace Go.Proofs.YtcpbijlcflaomaaGreatDoor
open Go.RowKit Go.Sort Go.Maps

/-- The labels of some places, in order. -/
def frmL (labs : List Int) (A : List Int) : List Int := (A.map fun a => labs.getD a.toNat 0).mergeSort fun x y => decide (x ≤ y)
theorem frmL_len (labs A : List Int) : (frmL labs A).length = A.length := by unfold frmL; rw [List.length_mergeSort]; simp
def argL (x k : Int) (n : Nat) : List Int := (List.range n).map fun j : Nat => (x + k + 5 * (j : Int)) % 6
theorem argL_len (x k : Int) (n : Nat) : (argL x k n).length = n := by simp [argL]
theorem argL_succ (x k : Int) (n : Nat) : argL x k (n + 1) = argL x k n ++ [(x + k + 5 * (n : Int)) % 6] := by simp [argL, List.range_succ]
/-- A phi, without where it lies. -/
def PhiM.abs (f : PhiM) : Int × List Int × List Int := (f.d, f.frm, f.arg)
/-- The phis behind the first k numbers. -/
def phK (fr : Nat → List Int) (n : Nat) (l : List Int) : Nat → Nat → List (Int × List Int × List Int)
  | 0 => fun _ => []
  | k + 1 => fun j =>
    let x := l.getD k 0
    if j = (x % (n : Int)).toNat ∧ ¬ x / 8 % 6 ∈ (phK fr n l k j).map (·.1) then phK fr n l k j ++ [(x / 8 % 6, fr j, argL x k (fr j).length)] else phK fr n l k j
theorem phK_len (fr : Nat → List Int) (n : Nat) (l : List Int) : ∀ k j, (phK fr n l k j).length ≤ k
  | 0, _ => by simp [phK]
  | k + 1, j => by
    have := phK_len fr n l k j
    rw [phK]
    dsimp only
    split
    · simp; omega
    · omega
theorem dsts_abs (ps : List PhiM) : (ps.map PhiM.abs).map (·.1) = dstsP ps := by unfold dstsP; rw [List.map_map]; rfl
/-- The graph is told by labels and ends alone. -/
theorem gofK_ab {bs bt : List BlkM} (h : bt.map BlkM.ab = bs.map BlkM.ab) (P : Int → Option Int) : ∀ j, gofK P bt j = gofK P bs j
  | 0 => rfl
  | j + 1 => by
    rw [gofK, gofK, gofK_ab h P j]
    have h1 : (bt.map BlkM.ab)[j]? = (bs.map BlkM.ab)[j]? := by rw [h]
    rw [List.getElem?_map, List.getElem?_map] at h1
    cases hb : bs[j]? with
    | none =>
      rw [hb] at h1
      cases ht : bt[j]? with
      | none => rfl
      | some B => rw [ht] at h1; simp at h1
    | some A =>
      rw [hb] at h1
      cases ht : bt[j]? with
      | none => rw [ht] at h1; simp at h1
      | some B =>
        rw [ht] at h1
        have h2 : B.ab = A.ab := by simpa using h1
        unfold BlkM.ab at h2
        injection h2 with e1 e2 e3 e4 e5 e6
        show joL P j _ (llabs B.e B.y B.n) = joL P j _ (llabs A.e A.y A.n)
        rw [e3, e5, e6]
theorem labs_ab {bs bt : List BlkM} (h : bt.map BlkM.ab = bs.map BlkM.ab) : labsOf bt = labsOf bs := by
  have : ∀ l : List BlkM, labsOf l = (l.map BlkM.ab).map ABlk.lab := fun l => by unfold labsOf; rw [List.map_map]; rfl
  rw [this, this, h]
theorem gof_ab {bs bt : List BlkM} (h : bt.map BlkM.ab = bs.map BlkM.ab) : gof bt = gof bs := by
  unfold gof
  rw [labs_ab h, gofK_ab h, show bt.length = bs.length by have := congrArg List.length h; simpa using this]
/-- What Phis leaves. -/
def PhisP (bs : List BlkM) (A : Int → List Int) (l : List Int) (w w' : World) (e : Ending) : Prop := ∃ cb co cc bt, e = .returned (.agg #[.slice (some ⟨cb, co, none⟩) bs.length cc]) ∧ PhO w w' cb co cc bs.length bt ∧ bt.map BlkM.ab = bs.map BlkM.ab ∧ (∀ (i : Nat) (B : BlkM), bt[i]? = some B → B.phis.map PhiM.abs = phK (fun i => frmL (labsOf bs) (A i)) bs.length l l.length i) ∧ Tch [] w w'
end Go.Proofs.YtcpbijlcflaomaaGreatDoor


/- Phis of the laws. -/
set_option linter.unusedSimpArgs false
set_option linter.unusedVariables false
namespace Go.Proofs.YtcpbijlcflaomaaGreatDoor
open Go.RowKit Go.Sort Go.Maps

theorem info_phi : (Tryz.prog.info? 100).map (fun i => (i.zero, i.size, i.bytes)) = some (some (.agg #[.int .i64 0, .slice none 0 0, .slice none 0 0]), 3, 56) := by kernel_rfl
theorem phK_no {fr : Nat → List Int} {n : Nat} {l : List Int} {k i im : Nat} {x d : Int} (hx : l[k]? = some x) (him : (im : Int) = x % (n : Int)) (hd : x / 8 % 6 = d) (h : i = im → d ∈ (phK fr n l k im).map (·.1)) : phK fr n l (k + 1) i = phK fr n l k i := by
  rw [phK]
  dsimp only
  rw [show l.getD k 0 = x by rw [List.getD_eq_getElem?_getD, hx]; rfl, ← him, hd, Int.toNat_natCast]
  rw [if_neg]
  rintro ⟨e, h2⟩
  subst e
  exact h2 (h rfl)
theorem phK_yes {fr : Nat → List Int} {n : Nat} {l : List Int} {k im : Nat} {x d : Int} (hx : l[k]? = some x) (him : (im : Int) = x % (n : Int)) (hd : x / 8 % 6 = d) (h : ¬ d ∈ (phK fr n l k im).map (·.1)) : phK fr n l (k + 1) im = phK fr n l k im ++ [(d, fr im, argL x k (fr im).length)] := by
  rw [phK]
  dsimp only
  rw [show l.getD k 0 = x by rw [List.getD_eq_getElem?_getD, hx]; rfl, ← him, hd, Int.toNat_natCast, if_pos ⟨rfl, h⟩]
theorem set_ab {bs : List BlkM} {i : Nat} {B B' : BlkM} (hB : bs[i]? = some B) (e : B'.ab = B.ab) : (bs.set i B').map BlkM.ab = bs.map BlkM.ab := by
  apply List.ext_getElem?
  intro j
  rw [List.getElem?_map, List.getElem?_map, List.getElem?_set]
  by_cases h : i = j
  · subst h
    rw [if_pos rfl, if_pos (List.getElem?_eq_some_iff.1 hB).1, hB]; simp [e]
  · rw [if_neg h]
theorem sort_any (fa : Option Addr) (n fc : Nat) (l : List Int) (w : World) (hn : l.length = n) (h : Sl w 3 1 (.slice fa n fc) n (ivals l)) (hl : n ≤ 1000) :
    Calls Tryz.prog 41 #[.slice fa n fc] w fun e w' => e = .returned (.tuple #[]) ∧ Sl w' 3 1 (.slice fa n fc) n (ivals (l.mergeSort fun x y => decide (x ≤ y))) ∧ Tch (blks (.slice fa n fc)) w w' := by
  subst hn
  by_cases h0 : l.length = 0
  · have e0 : l = [] := List.eq_nil_of_length_eq_zero h0
    subst e0
    have hh := AnyM.slices_Sort_int_none Tryz.lSort fa fc w
    change Calls Tryz.prog 41 _ _ _ at hh
    refine hh.mono ?_
    rintro e w' ⟨rfl, rfl⟩
    exact ⟨rfl, by rw [List.mergeSort_nil]; exact h, Tch.refl _ _⟩
  · obtain ⟨b, o, c, hv⟩ := h.ptr (by omega)
    cases hv
    exact (sort_ints b o fc l w h hl).mono fun e w' ⟨h1, h2, h3⟩ => ⟨h1, h2, h3.mono (by simp [blks])⟩
theorem fm_map : ∀ l : List Int, (l.flatMap fun y => [Value.int .u8 y]) = l.map (fun y => Value.int .u8 y)
  | [] => rfl
  | a :: l => by rw [List.flatMap_cons, fm_map l]; rfl
theorem MapS.obj {w : World} {mb N : Nat} {m : Int → Value} (h : MapS w mb N m) : ∃ es c, w.heap[mb]? = some (.map es c) := by
  obtain ⟨_, _, _, _, h1, _⟩ := h
  exact h1.obj
theorem tval {S : List Nat} {w w' : World} (t : Tch S w w') {p : Addr} {u : Value} (hc : w.cell? p = some u) (hn : ¬ p.block ∈ S) : w'.cell? p = some u := by
  rw [← hc]; unfold World.cell?; rw [t.block _ (cell_lt hc) hn]
theorem Gph.typ {K lo : Nat} {w w' : World} {bm am : Nat} {vF vA : Int → Value} {F A : Int → List Int} (h : Gph K lo w bm am vF vA F A) {S : List Nat} (t : Tch S w w') (hS : ∀ k ∈ S, ∃ cur, w.heap[k]? = some (.cells cur 52 (0, 0))) : Gph K lo w' bm am vF vA F A := by
  obtain ⟨hb, ha, f, g, r1, r3, r4, r5, r6, r7⟩ := h
  refine ⟨hb.kept t (fun hm => ?_), ha.kept t (fun hm => ?_), fun x => sl_type (f x) t hS (by decide), fun x => sl_type (g x) t hS (by decide), r1, r3, r4, r5, r6, r7⟩
  · obtain ⟨cur, h1⟩ := hS _ hm
    obtain ⟨es, c, h2⟩ := hb.obj
    rw [h2] at h1; cases h1
  · obtain ⟨cur, h1⟩ := hS _ hm
    obtain ⟨es, c, h2⟩ := ha.obj
    rw [h2] at h1; cases h1
set_option maxRecDepth 100000 in
set_option maxHeartbeats 16000000 in
/-- **Phis.** -/
theorem phis_any {w : World} {v : Value} {bs : List BlkM} (l : List Int) (la : Option Addr) (lc : Nat) (hp : ProgOk w v bs) (h0 : ∀ B ∈ bs, B.pv = .slice none 0 0 ∧ B.phis = []) (hi : ∀ B ∈ bs, B.ins.length ≤ 100) (hn : 1 ≤ bs.length ∧ bs.length ≤ 100) (hw : PrgW bs) (hl : l.length ≤ 20) (hu : Cel w 1 (.slice la l.length lc) l.length (l.flatMap fun y => [.int .u8 y])) (hb : ∀ x ∈ l, 0 ≤ x ∧ x ≤ 255) :
    Calls Tryz.prog 18 #[.agg #[v], .slice la l.length lc] w fun e w' => ∃ A, FA bs.length (2 * bs.length) (gof bs) A ∧ PhisP bs A l w w' e := by
  have hmo : Tryz.prog.follows .mixedOrders = true := by kernel_rfl
  obtain ⟨pa, pc, hv⟩ := hp.b.shape
  subst hv
  have t0 : Gr w ((w.alloc (.cells #[.slice pa bs.length pc] 28)).alloc (.cells #[.slice none 0 0] 28)) := ((Gr.refl w).alloc _).alloc _
  have HCL := hid (clone_any (.slice pa bs.length pc) bs hn.1 (by omega) _ (hp.gr t0) h0 (fun B hB => by have := hi B hB; omega))
  have HU := hid hu
  have HB := hid hb
  have HW := hid hw
  have HN := hid hn
  have hn1 := hn.1
  have hn2 := hn.2
  clear hp h0 hi hu hb hw hn
  go_enter Tryz.func18, Tryz.ntmps18
  go_upto_region 1 with fail
  have z0 := ((Gr.refl _).alloc (.cells #[.slice none 0 0] 28)).obj (heap_alloc_new w (.cells #[.slice pa bs.length pc] 28))
  have z1 := heap_alloc_new (w.alloc (.cells #[.slice pa bs.length pc] 28)) (.cells #[.slice none 0 0] 28)
  rw [show (w.alloc (.cells #[.slice pa bs.length pc] 28)).heap.size = w.heap.size + 1 by simp] at z1
  have T0 := hid t0.tch
  clear t0
  generalize (w.alloc (.cells #[.slice pa bs.length pc] 28)).alloc (.cells #[.slice none 0 0] 28) = W0 at *
  have Z0 := hid z0
  have Z1 := hid z1
  have c0 := cell_of_row _ _ 0 _ _ _ z0
  simp only [List.getElem?_toArray, List.getElem?_cons_zero] at c0
  have l1 := lt_of_obj z1
  clear z0 z1
  go_upto_region 2 with (go_at_call 21; refine HCL.out.mono ?_; rintro e W1 ⟨v5, cl, rfl, ow5, ab5, g5, ap5⟩; have hcn : cl.length = bs.length := (by have := congrArg List.length ab5; simpa using this); obtain ⟨cb, co, cc, hv5⟩ := ow5.b.ptr (by omega); rw [hcn] at hv5; subst hv5; have OW := hid ow5; have AB := hid ab5; have T01 := hid g5.tch; have zo := g5.obj Z0.out; have q0 := cell_of_row _ _ 0 _ _ _ zo; have fz : (∀ k, W1.frozen? ⟨w.heap.size, k, none⟩ = false) := (fun k => frozen_of_row _ _ _ _ _ zo); simp only [List.getElem?_toArray, List.getElem?_cons_zero] at q0; have lz := lt_of_obj zo; clear ow5 ab5 g5 ap5 zo)
  have CB : Hid (W0.heap.size ≤ cb ∧ w.heap.size + 1 < W0.heap.size) := ⟨(OW.out.o cb (by simp [blks])).1, l1⟩
  have zo2 : (W1.setCell ⟨w.heap.size, 0, none⟩ (.slice (some ⟨cb, co, none⟩) bs.length cc)).heap[w.heap.size]? = some (.cells #[.slice (some ⟨cb, co, none⟩) bs.length cc] 28 (0, 0)) := heap_setCell_same _ _ _ _ _ _ (T01.out.obj Z0.out (by simp))
  have t2 : Tch [w.heap.size] W1 (W1.setCell ⟨w.heap.size, 0, none⟩ (.slice (some ⟨cb, co, none⟩) bs.length cc)) := (Tch.refl [w.heap.size] W1).setCell (p := ⟨w.heap.size, 0, none⟩) (.inl (by simp)) _
  have z12 := t2.obj (T01.out.obj Z1.out (by simp)) (by simp)
  have sb2 : Sl (W1.setCell ⟨w.heap.size, 0, none⟩ (.slice (some ⟨cb, co, none⟩) bs.length cc)) 52 7 (.slice (some ⟨cb, co, none⟩) bs.length cc) bs.length (blkC cl) := by
    have h := OW.out.b.kept t2 (fun k hk hm => by simp [blks] at hk hm; have := CB.out; omega)
    rwa [hcn] at h
  have si2 : ∀ B ∈ cl, Sl (W1.setCell ⟨w.heap.size, 0, none⟩ (.slice (some ⟨cb, co, none⟩) bs.length cc)) 56 7 B.iv B.ins.length (insC B.ins) := fun B hB => (OW.out.i B hB).kept t2 (fun k hk hm => by simp at hm; have := (OW.out.q B hB k hk).1; have := CB.out; omega)
  have HNP : Hid (∀ B ∈ cl, B.pv = .slice none 0 0 ∧ B.phis = []) := OW.out.p
  have T2 : Hid (Tch [] w (W1.setCell ⟨w.heap.size, 0, none⟩ (.slice (some ⟨cb, co, none⟩) bs.length cc))) := (T0.out.trans T01.out).trans2 t2 (fun k hk => .inr (by simp at hk; omega))
  have SB2 := hid sb2
  have SI2 := hid si2
  have Z02 := hid zo2
  have Z12 := hid z12
  have HPW : Hid (PrgW cl) := fun B hB => by
    have h1 : B.ab ∈ bs.map BlkM.ab := by rw [← AB.out]; exact List.mem_map.2 ⟨B, hB, rfl⟩
    obtain ⟨C, hC, e⟩ := List.mem_map.1 h1
    obtain ⟨w1, w2, w3, _⟩ := HW.out C hC
    have e1 : C.lab = B.lab := congrArg ABlk.lab e
    have e2 : C.y = B.y := congrArg ABlk.y e
    have e3 : C.n = B.n := congrArg ABlk.n e
    obtain ⟨a, c, e4⟩ := (si2 B hB).shape
    exact ⟨e1 ▸ w1, e2 ▸ w2, e3 ▸ w3, ⟨_, _, _, (HNP.out B hB).1⟩, a, _, c, e4⟩
  clear c0 q0 fz lz zo2 t2 z12 sb2 si2 T0 T01 Z0 Z1 OW HCL HW
  generalize W1.setCell ⟨w.heap.size, 0, none⟩ (.slice (some ⟨cb, co, none⟩) bs.length cc) = W2 at *
  have HGO : Hid (Calls Tryz.prog 11 #[.agg #[.slice (some ⟨cb, co, none⟩) bs.length cc]] W2 fun e w' => GOfP cl W2 w' e) := gof_any (v := .slice (some ⟨cb, co, none⟩) bs.length cc) (by rw [hcn]; exact SB2.out) (by omega) HPW.out
  have c2 := cell_of_row _ _ 0 _ _ _ Z02.out
  simp only [List.getElem?_toArray, List.getElem?_cons_zero] at c2
  have l2 := lt_of_obj Z02.out
  go_upto_region 3 with (go_at_call 11; refine HGO.out.mono ?_; rintro e W3 ⟨lo, bm, am, rfl, gs3, t3⟩; rw [hcn] at gs3; have GS3 := hid gs3; have T23 := hid t3; clear gs3 t3)
  have t4 : Tch [] W3 (W3.alloc (.cells #[.int .i64 bs.length, .map (some bm), .map (some am)] 35)) := (Tch.refl [] W3).alloc _
  have g4 := heap_alloc_new W3 (.cells #[.int .i64 bs.length, .map (some bm), .map (some am)] 35)
  have T24 := hid (T23.out.trans t4)
  have GS4 := hid (GS3.out.tch t4)
  generalize W3.alloc (.cells #[.int .i64 bs.length, .map (some bm), .map (some am)] 35) = W4 at *
  have G4 := hid g4
  generalize W3.heap.size = gb at *
  obtain ⟨K, vF, vA, A, hKK, hGp, hFA, _⟩ := GS4.out
  rw [gof_ab AB.out] at hGp hFA
  have GP := hid hGp
  have FAH := hid hFA
  have PS4 : Hid (PhS W4 W4 cb co cc bs.length cl) := ⟨hcn, SB2.out.kept T24.out (by simp), fun B hB => by rw [(HNP.out B hB).1, (HNP.out B hB).2]; exact Sl.nil _ _ _, fun B hB f hf => by rw [(HNP.out B hB).2] at hf; simp at hf, fun B hB => (SI2.out B hB).kept T24.out (by simp), fun B hB k hk => by rw [(HNP.out B hB).1] at hk; simp [blks] at hk, fun i j A B hA hB hij k hk => by rw [(HNP.out A (List.mem_of_getElem? hA)).1] at hk; simp [blks] at hk, fun B hB _ => (HNP.out B hB).1, by have := SB2.out.lt cb (by simp [blks]); exact Nat.lt_of_lt_of_le this T24.out.size, Tch.refl _ _⟩
  have Z04 := hid (T24.out.obj Z02.out (by simp))
  have Z14 := hid (T24.out.obj Z12.out (by simp))
  have T4 := hid (T2.out.trans T24.out)
  have NE : Hid (¬ w.heap.size = cb ∧ ¬ w.heap.size + 1 = cb ∧ ¬ gb = cb) := ⟨by have := CB.out; omega, by have := CB.out; omega, fun e => by
    obtain ⟨cur, h⟩ := PS4.out.cbo
    subst e
    injection Option.some.inj (h.symm.trans G4.out) with e1 e2
    exact absurd e2 (by decide)⟩
  have NP4 := hid HNP.out
  have HCBO := hid PS4.out.cbo
  have CBW : Hid (w.heap.size ≤ cb) := hid (by have := CB.out; omega)
  have HCN := hid hcn
  clear hcn c2 l2 t4 g4 HGO GS3 T23 GS4 hKK hGp hFA SB2 SI2 HPW HNP Z02 Z12 T2 T24 CB l1
  go_upto_region 4 with fail
  obtain ⟨FR, hFR⟩ : ∃ FR : Nat → List Int, (fun i : Nat => frmL (labsOf bs) (A i)) = FR := ⟨_, rfl⟩
  have HFR : Hid (∀ i : Nat, FR i = frmL (labsOf bs) (A i)) := fun i => by rw [← hFR]
  go_loopw [6, 7, 8, 9, 11, 12, 19] (fun _ _ _ _ _ _ vi wr => ∃ (k : Nat) (bt : List BlkM), vi = .int .i64 k ∧ k ≤ l.length ∧ Hid (PhS W4 wr cb co cc bs.length bt) ∧ Hid (bt.map BlkM.ab = bs.map BlkM.ab ∧ ∀ (i : Nat) (B : BlkM), bt[i]? = some B → B.phis.map PhiM.abs = phK FR bs.length l k i)) (fun _ _ _ _ _ _ vi _ => l.length - (intOf vi).toNat)
  case atStart => exact ⟨0, cl, rfl, Nat.zero_le _, PS4.out, AB.out, fun i B hB => by rw [(NP4.out B (List.mem_of_getElem? hB)).2]; rfl⟩
  case round =>
    obtain ⟨k, bt, rfl, hk, PS, HRB⟩ := hrel
    clear PS4 NP4 HCN AB
    by_cases hlt : k < l.length
    · obtain ⟨x, hx⟩ : ∃ x, l[k]? = some x := ⟨l[k], by simp [hlt]⟩
      have hxb := HB.out x (List.mem_of_getElem? hx)
      have TWR : Hid (Tch [] w wr) := T4.out.trans2 PS.out.t (fun k hk => .inr (by simp at hk; subst hk; exact CBW.out))
      have cu := HU.out.tch TWR.out
      obtain ⟨b, off, c', hv⟩ := cu.ptr (Nat.zero_lt_of_lt hlt)
      cases hv
      have cx := cu.cell (by omega) k (u := .int .u8 x) (by rw [fm_map, List.getElem?_map, hx]; rfl)
      have lx := cell_lt cx
      simp only at lx
      have o0 := PS.out.t.obj Z04.out (by simp; exact NE.out.1)
      have c0 := cell_of_row _ _ 0 _ _ _ o0
      simp only [List.getElem?_toArray, List.getElem?_cons_zero] at c0
      have l0 := lt_of_obj o0
      obtain ⟨im, him⟩ : ∃ im : Nat, (im : Int) = x % (bs.length : Int) := ⟨(x % (bs.length : Int)).toNat, Int.toNat_of_nonneg (Int.emod_nonneg x (show (bs.length : Int) ≠ 0 by omega))⟩
      have hin : im < bs.length := by
        have h9 := Int.emod_lt_of_pos x (show (0 : Int) < (bs.length : Int) by omega)
        rw [← him] at h9; omega
      have ht1 : IntKind.i64.wrap x = x := by rw [IntKind.wrap_i64]; omega
      have ht2 : x.tmod (bs.length : Int) = (im : Int) := by rw [Int.tmod_eq_emod_of_nonneg hxb.1, him]
      have ht3 : IntKind.i64.wrap (im : Int) = (im : Int) := by rw [IntKind.wrap_i64]; omega
      have hn0 : ¬ ((bs.length : Int) = 0) := by omega
      have hn3 : ((bs.length : Int) == 0) = false := beq_eq_false_iff_ne.2 hn0
      obtain ⟨x8, hx8⟩ : ∃ q, x / 8 = q := ⟨_, rfl⟩
      have hq0 : 0 ≤ x8 ∧ x8 < 32 := by omega
      have hq1 : x.tdiv 8 = x8 := by rw [Int.tdiv_eq_ediv_of_nonneg hxb.1, hx8]
      have hq2 : IntKind.u8.wrap x8 = x8 := by rw [IntKind.wrap_u8]; omega
      have hq3 : IntKind.i64.wrap x8 = x8 := by rw [IntKind.wrap_i64]; omega
      obtain ⟨d, hd⟩ : ∃ d, x8 % 6 = d := ⟨_, rfl⟩
      have hd0 : 0 ≤ d ∧ d < 6 := by omega
      have hq4 : x8.tmod 6 = d := by rw [Int.tmod_eq_emod_of_nonneg hq0.1, hd]
      have hq5 : IntKind.i64.wrap d = d := by rw [IntKind.wrap_i64]; omega
      have HIM := hid him
      have HD : Hid (x / 8 % 6 = d) := by show _ = _; rw [hx8, hd]
      have HX := hid hx
      clear cu o0 him hx8 hd hx
      go_upto_region 8 with fail
      have o8 := heap_alloc_new wr (.cells #[.int .i64 d, .slice none 0 0, .slice none 0 0] 100)
      have t8 : Tch [] wr (wr.alloc (.cells #[.int .i64 d, .slice none 0 0, .slice none 0 0] 100)) := (Tch.refl [] wr).alloc _
      have NFB : Hid (wr.heap.size < (wr.alloc (.cells #[.int .i64 d, .slice none 0 0, .slice none 0 0] 100)).heap.size) := hid (by simp)
      generalize wr.alloc (.cells #[.int .i64 d, .slice none 0 0, .slice none 0 0] 100) = w8 at *
      have FB8 := hid o8
      have T8 := hid t8
      have GR : Hid (wr.heap.size ≤ wr.heap.size) := Nat.le_refl _
      generalize hfb : wr.heap.size = fb at *
      have HFB := hid hfb
      clear o8 t8 cx lx c0 l0 ht1 ht2 hn0 hn3 hq1 hq2 hq3 hq4 hq5 hfb GR
      have PS8 := hid (PS.out.tch T8.out)
      have og := PS8.out.t.obj G4.out (by simp; exact NE.out.2.2)
      have g0 := cell_of_row _ _ 0 _ _ _ og
      have g1 := cell_of_row _ _ 1 _ _ _ og
      have g2 := cell_of_row _ _ 2 _ _ _ og
      simp only [List.getElem?_toArray, List.getElem?_cons_zero, List.getElem?_cons_succ] at g0 g1 g2
      have lg := lt_of_obj og
      have wim : wfi (im : Int) := wfi_of (by omega) (by omega)
      have hla := FAH.out.la im
      have HAH := hid (ahead_any (GP.out.typ PS8.out.t (fun k hk => by simp at hk; subst hk; exact HCBO.out)) bs.length im wim (by omega))
      obtain ⟨al, hal⟩ : ∃ al, A im = al := ⟨_, rfl⟩
      have HAI : Hid (FR im = frmL (labsOf bs) al) := by show _ = _; rw [HFR.out, hal]
      have HAR : Hid (∀ y ∈ al, 0 ≤ y ∧ y < (bs.length : Int)) := fun y hy => (FAH.out.rng y im ((FAH.out.mem y im).2 (by rw [hal]; exact hy))).1
      rw [hal] at HAH hla
      clear og hal wim
      go_upto_region 9 with (go_at_call 40; refine HAH.out.mono ?_; rintro e w9 ⟨v9, rfl, s9, g9, b9⟩; obtain ⟨ba9, bc9, hv9⟩ := s9.shape; subst hv9; have S9 := hid s9; have T89 := hid g9.tch; have HB9 := hid b9; clear s9 g9 b9)
      clear g0 g1 g2 lg HAH
      have T9 := hid (T8.out.trans T89.out)
      have FB9 := hid (T89.out.obj FB8.out (by simp))
      have LB9 : Hid (fb < w8.heap.size ∧ w8.heap.size ≤ w9.heap.size) := ⟨NFB.out, T89.out.size⟩
      clear FB8 T89 NFB PS8
      obtain ⟨LS, hLS⟩ : ∃ LS : List Int, al.map (fun a => (labsOf bs).getD a.toNat 0) = LS := ⟨_, rfl⟩
      have HLS := hid hLS
      clear hLS
      go_loopw [11, 39] (fun _ vi wq => ∃ (j : Nat) (fa : Option Addr) (fc : Nat), vi = .int .i64 j ∧ j ≤ al.length ∧ Hid (wq.heap[fb]? = some (.cells #[.int .i64 d, .slice fa j fc, .slice none 0 0] 100 (0, 0)) ∧ Sl wq 3 1 (.slice fa j fc) j (ivals (LS.take j)) ∧ (∀ k ∈ blks (.slice fa j fc), w9.heap.size ≤ k) ∧ Tch [fb] w9 wq)) (fun _ vi _ => al.length - (intOf vi).toNat)
      case atStart => exact ⟨0, none, 0, rfl, Nat.zero_le _, FB9.out, Sl.nil _ _ _, by simp [blks], Tch.refl _ _⟩
      case round =>
        obtain ⟨j, fa, fc, rfl, hj, HJ⟩ := hrel
        rename World => wq
        by_cases hjl : j < al.length
        · obtain ⟨q, hq⟩ : ∃ q, al[j]? = some q := ⟨al[j], by simp [hjl]⟩
          have hqr := HAR.out q (List.mem_of_getElem? hq)
          obtain ⟨qn, hqn⟩ : ∃ qn : Nat, q = qn := ⟨q.toNat, by omega⟩
          subst hqn
          have hqb : qn < bs.length := by omega
          have FBN : Hid (∀ k ∈ blks (.slice ba9 al.length bc9), ¬ k ∈ [fb]) := fun k hk hm => by simp at hm; subst hm; have := HB9.out _ hk; have := LB9.out; omega
          have s9 := S9.out.kept HJ.out.2.2.2 FBN.out
          obtain ⟨b3, o3, d3, hv3⟩ := s9.ptr (Nat.zero_lt_of_lt hjl)
          cases hv3
          have ca := s9.cell.2.1 j (.int .i64 qn) (by simp [ivals, hq])
          have la3 := cell_lt ca
          simp only at la3
          have TRQ : Hid (Tch [] wr wq) := T9.out.trans2 HJ.out.2.2.2 (fun k hk => .inr (by simp at hk; subst hk; have := HFB.out; omega))
          have PSQ := hid (PS.out.tch TRQ.out)
          have hbl : bt.length = bs.length := PSQ.out.len
          obtain ⟨B, hB⟩ : ∃ B, bt[qn]? = some B := ⟨bt[qn]'(by omega), List.getElem?_eq_getElem (by omega)⟩
          have sB := PSQ.out.b
          rw [← PSQ.out.len] at sB
          obtain ⟨y0, _, _, _, _, _, _⟩ := blk_at sB qn hB
          obtain ⟨lab, hlab⟩ : ∃ lab, B.lab = lab := ⟨_, rfl⟩
          rw [hlab] at y0
          have HTK : Hid (LS.take (j + 1) = LS.take j ++ [lab]) := by
            show _ = _
            have h1 : LS[j]? = some lab := by
              rw [← HLS.out, List.getElem?_map, hq]
              show some ((labsOf bs).getD (Int.toNat (qn : Int)) 0) = some lab
              rw [← labs_ab HRB.out.1, Int.toNat_natCast]
              unfold labsOf
              rw [List.getD_eq_getElem?_getD, List.getElem?_map, hB, ← hlab]; rfl
            rw [List.take_add_one, h1]; rfl
          have oz := PSQ.out.t.obj Z04.out (by simp; exact NE.out.1)
          have c0 := cell_of_row _ _ 0 _ _ _ oz
          have cf := cell_of_row _ _ 1 _ _ _ HJ.out.1
          simp only [List.getElem?_toArray, List.getElem?_cons_zero, List.getElem?_cons_succ] at c0 cf
          have ff : ∀ k, wq.frozen? ⟨fb, k, none⟩ = false := fun k => frozen_of_row _ _ _ _ _ HJ.out.1
          have lf := lt_of_obj HJ.out.1
          have l0 := lt_of_obj oz
          have lc := cell_lt y0
          simp only at lc
          have SF := hid HJ.out.2.1
          have HFO := hid HJ.out.1
          have HBF := hid HJ.out.2.2.1
          have TJ := hid HJ.out.2.2.2
          have FFB : Hid (∀ k ∈ blks (.slice fa j fc), ¬ k = fb) := fun k hk e => by have := HBF.out k hk; have := LB9.out; omega
          have FCB : Hid (∀ k ∈ blks (.slice fa j fc), wr.heap.size ≤ k) := fun k hk => by have := HBF.out k hk; have := LB9.out; have := HFB.out; omega
          go_upto_region 11 with fail
          have KT : Hid (∀ w', Tch (blks (.slice fa j fc)) wq w' → Tch (blks (.slice fa j fc)) wq w' ∧ w'.cell? ⟨fb, 1, none⟩ = some (.slice fa j fc) ∧ w'.frozen? ⟨fb, 1, none⟩ = false ∧ w'.cell? ⟨w.heap.size, 0, none⟩ = some (.slice (some ⟨cb, co, none⟩) bs.length cc) ∧ w'.cell? ⟨cb, co + qn * 7, none⟩ = some (.int .i64 lab)) := fun w' t => by
            have of := t.obj HFO.out (fun h1 => FFB.out fb h1 rfl)
            have q1 := cell_of_row _ _ 1 _ _ _ of
            simp only [List.getElem?_toArray, List.getElem?_cons_zero, List.getElem?_cons_succ] at q1
            refine ⟨t, q1, frozen_of_row _ _ _ _ _ of, tval t (p := ⟨w.heap.size, 0, none⟩) c0 (fun hm => ?_), tval t (p := ⟨cb, co + qn * 7, none⟩) y0 (fun hm => ?_)⟩
            · have := FCB.out w.heap.size hm; have h8 := lt_of_obj (PS.out.t.obj Z04.out (by simp; exact NE.out.1)); omega
            · have := FCB.out cb hm; have h8 := PS.out.b.lt cb (by simp [blks]); omega
          refine wp_region_z (fun w' => Tch (blks (.slice fa j fc)) wq w' ∧ w'.cell? ⟨fb, 1, none⟩ = some (.slice fa j fc) ∧ w'.frozen? ⟨fb, 1, none⟩ = false ∧ w'.cell? ⟨w.heap.size, 0, none⟩ = some (.slice (some ⟨cb, co, none⟩) bs.length cc) ∧ w'.cell? ⟨cb, co + qn * 7, none⟩ = some (.int .i64 lab)) 11 hmo (KT.out _ (Tch.refl _ _).drew) (fun hHeld => ?_)
          have HZ0 := hid hHeld.1.size
          have P0 := hid (SF.out.kept ((Tch.refl [] wq).drew) (by simp))
          generalize wq.drew = x0 at *
          refine wpAnyZ_take (i := 0) (v := ?_) rfl (by kernel_rfl) (by kernel_rfl) (by kernel_rfl) (by kernel_rfl) (fun _ _ _ h => h) (Or.inl ⟨by rfl, ?_⟩) (by assumption) ?_
          rotate_left
          (intro w hSw; (try dsimp only at hSw); go_simp; try (with_reducible rfl))
          try simp only [Act.put, List.setIfInBounds_toArray, List.set_cons_zero, List.set_cons_succ]
          refine wpAnyZ_take (i := 1) (v := ?_) rfl (by kernel_rfl) (by kernel_rfl) (by kernel_rfl) (by kernel_rfl) (fun _ _ _ h => h) (Or.inl ⟨by rfl, ?_⟩) (by assumption) ?_
          rotate_left
          (intro w hSw; (try dsimp only at hSw); go_simp; try (with_reducible rfl))
          try simp only [Act.put, List.setIfInBounds_toArray, List.set_cons_zero, List.set_cons_succ]
          refine wpAnyZ_take (i := 2) (v := ?_) rfl (by kernel_rfl) (by kernel_rfl) (by kernel_rfl) (by kernel_rfl) (fun _ _ _ h => h) (Or.inl ⟨by rfl, ?_⟩) (by assumption) ?_
          rotate_left
          (intro w hSw; (try dsimp only at hSw); go_simp; try (with_reducible rfl))
          try simp only [Act.put, List.setIfInBounds_toArray, List.set_cons_zero, List.set_cons_succ]
          refine wpAnyZ_take (i := 3) (v := ?_) rfl (by kernel_rfl) (by kernel_rfl) (by kernel_rfl) (by kernel_rfl) (fun _ _ _ h => h) (Or.inl ⟨by rfl, ?_⟩) (by assumption) ?_
          rotate_left
          (intro w hSw; (try dsimp only at hSw); go_simp; try (with_reducible rfl))
          try simp only [Act.put, List.setIfInBounds_toArray, List.set_cons_zero, List.set_cons_succ]
          refine wpAnyZ_take (i := 4) (v := ?_) rfl (by kernel_rfl) (by kernel_rfl) (by kernel_rfl) (by kernel_rfl) (fun _ _ _ h => h) (Or.inl ⟨by rfl, ?_⟩) (by assumption) ?_
          rotate_left
          (intro w hSw; (try dsimp only at hSw); go_simp; try (with_reducible rfl))
          try simp only [Act.put, List.setIfInBounds_toArray, List.set_cons_zero, List.set_cons_succ]
          refine wpAnyZ_take (i := 5) (v := ?_) rfl (by kernel_rfl) (by kernel_rfl) (by kernel_rfl) (by kernel_rfl) (fun _ _ _ h => h) (Or.inl ⟨by rfl, ?_⟩) (by assumption) ?_
          rotate_left
          (intro w hSw; (try dsimp only at hSw); go_simp; try (with_reducible rfl))
          try simp only [Act.put, List.setIfInBounds_toArray, List.set_cons_zero, List.set_cons_succ]
          refine wpAnyZ_take (i := 6) (v := ?_) rfl (by kernel_rfl) (by kernel_rfl) (by kernel_rfl) (by kernel_rfl) (fun _ _ _ h => h) (Or.inl ⟨by rfl, ?_⟩) (by assumption) ?_
          rotate_left
          (intro w hSw; (try dsimp only at hSw); go_simp; try (with_reducible rfl))
          try simp only [Act.put, List.setIfInBounds_toArray, List.set_cons_zero, List.set_cons_succ]
          refine wpAnyZ_take (i := 7) (v := ?_) rfl (by kernel_rfl) (by kernel_rfl) (by kernel_rfl) (by kernel_rfl) (fun _ _ _ h => h) (Or.inl ⟨by rfl, ?_⟩) (by assumption) ?_
          rotate_left
          (intro w hSw; (try dsimp only at hSw); go_simp; try (with_reducible rfl))
          try simp only [Act.put, List.setIfInBounds_toArray, List.set_cons_zero, List.set_cons_succ]
          refine wpAnyZ_step (i := 8) (by kernel_rfl) rfl (fun Kq hK => ?_)
          have lw0 := cell_lt hHeld.2.2.2.2
          simp only at lw0
          go_simp
          refine hK.out _ _ (KT.out _ (hHeld.1.alloc _)) (fun hH2 => ?_)
          clear hHeld hK Kq
          have hHeld := hH2
          clear hH2
          try simp only [Act.put, List.setIfInBounds_toArray, List.set_cons_zero, List.set_cons_succ]
          have OB := hid (heap_alloc_new x0 (.cells #[.int .i64 lab] 3))
          have TB := hid ((Tch.refl [] x0).alloc (.cells #[.int .i64 lab] 3))
          have P1 := hid (P0.out.kept TB.out (by simp))
          generalize x0.alloc (.cells #[.int .i64 lab] 3) = x1 at *
          generalize x0.heap.size = qb at OB ⊢
          refine wpAnyZ_step (i := 9) (by kernel_rfl) rfl (fun Kq hK => ?_)
          refine step_append_t rfl _ _ 39 rfl Tryz.underlying39 info_int rfl (by decide) (.slice fa j fc) rfl P1.out ⟨qb, 0, none⟩ 1 1 rfl [.int .i64 lab] rfl (fun j u hj => by rw [Addr.add_lit, Nat.zero_add, cell_of_row _ _ j _ _ _ OB.out]; simpa using hj) (by simp [Value.oneCell']) (by omega) ?_
          intro v2 x2 sC tC dC oC
          obtain ⟨va2, vc2, hv2⟩ := sC.shape
          subst hv2
          have SC := hid sC
          refine hK.out _ _ (KT.out _ (hHeld.1.trans tC)) (fun hH2 => ?_)
          clear hHeld hK Kq
          have hHeld := hH2
          clear hH2
          try simp only [Act.put, List.setIfInBounds_toArray, List.set_cons_zero, List.set_cons_succ]
          have OC := hid (fun i hi => (oC i hi).imp id (fun h2 => Nat.le_trans (Nat.le_trans HZ0.out TB.out.size) h2))
          have TW := hid hHeld.1
          clear sC tC oC dC
          refine wpAnyZ_take (i := 10) (v := ?_) rfl (by kernel_rfl) (by kernel_rfl) (by kernel_rfl) (by kernel_rfl) (fun _ _ _ h => h) (Or.inl ⟨by rfl, ?_⟩) (by assumption) ?_
          rotate_left
          (intro w hSw; (try dsimp only at hSw); go_simp; try (with_reducible rfl))
          try simp only [Act.put, List.setIfInBounds_toArray, List.set_cons_zero, List.set_cons_succ]
          refine wpAnyZ_last (by kernel_rfl) rfl (fun Kq hK => ?_)
          go_simp
          refine hK.out _ _ ?_
          clear hK Kq
          try simp only [Act.put, List.setIfInBounds_toArray, List.set_cons_zero, List.set_cons_succ]
          clear hHeld
          refine wpAnyZ_done (by kernel_rfl) (NoPanic.normal ?_) _
          have SN : Hid (Sl x2 3 1 (.slice va2 (j + 1) vc2) (j + 1) (ivals (LS.take (j + 1)))) := by
            show Sl _ _ _ _ _ _
            rw [HTK.out]
            simpa [ivals] using SC.out
          have of2 : (x2.setCell ⟨fb, 1, none⟩ (.slice va2 (j + 1) vc2)).heap[fb]? = some (.cells #[.int .i64 d, .slice va2 (j + 1) vc2, .slice none 0 0] 100 (0, 0)) := heap_setCell_same _ _ _ _ _ _ (TW.out.obj HFO.out (fun h1 => FFB.out fb h1 rfl))
          have tS : Tch [fb] x2 (x2.setCell ⟨fb, 1, none⟩ (.slice va2 (j + 1) vc2)) := (Tch.refl [fb] x2).setCell (p := ⟨fb, 1, none⟩) (.inl (by simp)) _
          have lfq := lt_of_obj HFO.out
          have NB : ∀ i ∈ blks (.slice va2 (j + 1) vc2), w9.heap.size ≤ i ∧ ¬ i = fb := fun i hi => by
            rcases OC.out i hi with h2 | h2
            · exact ⟨HBF.out i h2, FFB.out i h2⟩
            · exact ⟨Nat.le_trans TJ.out.size h2, by omega⟩
          have N1 := hid of2
          have N2 := hid (SN.out.kept tS (fun i hi hm => by simp at hm; exact (NB i hi).2 hm))
          have N3 : Hid (∀ i ∈ blks (.slice va2 (j + 1) vc2), w9.heap.size ≤ i) := fun i hi => (NB i hi).1
          have N4 : Hid (Tch [fb] w9 (x2.setCell ⟨fb, 1, none⟩ (.slice va2 (j + 1) vc2))) := (TJ.out.trans2 TW.out (fun i hi => .inr (HBF.out i hi))).trans2 tS (fun i hi => .inl hi)
          clear KT SC TW OC P0 P1 OB TB HZ0 SN of2 tS lfq NB ca la3 c0 cf ff lf l0 lc y0 s9 HJ SF HFO HBF TJ TRQ PSQ sB hB oz
          generalize x2.setCell ⟨fb, 1, none⟩ (.slice va2 (j + 1) vc2) = wn at *
          go_wp2_with fail
          go_roundw
          case rel => exact ⟨j + 1, va2, vc2, by go_num, by omega, N1.out, N2.out, N3.out, N4.out⟩
          case measure => simp [intOf]; omega
        · obtain rfl : j = al.length := by omega
          have hls : LS.length = al.length := by rw [← HLS.out]; simp
          have SF : Hid (Sl wq 3 1 (.slice fa al.length fc) al.length (ivals LS)) := by
            have h := HJ.out.2.1
            rwa [← hls, List.take_length, hls] at h
          have HSO := hid (sort_any fa al.length fc LS wq hls SF.out (by omega))
          have HFS : Hid (LS.mergeSort (fun x y => decide (x ≤ y)) = FR im) := by show _ = _; rw [HAI.out, frmL, HLS.out]
          rw [HFS.out] at HSO
          have HFO := hid HJ.out.1
          have HBF := hid HJ.out.2.2.1
          have TJ := hid HJ.out.2.2.2
          have FFB : Hid (∀ k ∈ blks (.slice fa al.length fc), ¬ k = fb) := fun k hk e => by have := HBF.out k hk; have := LB9.out; omega
          have cf := cell_of_row _ _ 1 _ _ _ HFO.out
          simp only [List.getElem?_toArray, List.getElem?_cons_zero, List.getElem?_cons_succ] at cf
          have lf := lt_of_obj HFO.out
          have LFB : Hid (fb < wq.heap.size) := lf
          clear HJ S9 HB9 HLS HFS
          go_upto_region 14 with (go_at_call 41; refine HSO.out.mono ?_; rintro e w13 ⟨rfl, s13, t13⟩; have S13 := hid s13; have T13 := hid t13; clear s13 t13)
          have FO13 := hid (T13.out.obj HFO.out (fun h1 => FFB.out fb h1 rfl))
          have T913 : Hid (Tch [fb] w9 w13) := TJ.out.trans2 T13.out (fun i hi => .inr (HBF.out i hi))
          have hfs : (FR im).length = al.length := by rw [HAI.out, frmL_len]
          clear cf lf HSO HFO TJ T13 SF
          have cf := cell_of_row _ _ 1 _ _ _ FO13.out
          simp only [List.getElem?_toArray, List.getElem?_cons_zero, List.getElem?_cons_succ] at cf
          have lf := lt_of_obj FO13.out
          go_upto_region 15 with fail
          clear cf lf
          go_loopw [12, 61] (fun _ vi wq => ∃ (j : Nat) (aa : Option Addr) (ac : Nat), vi = .int .i64 j ∧ j ≤ al.length ∧ Hid (wq.heap[fb]? = some (.cells #[.int .i64 d, .slice fa al.length fc, .slice aa j ac] 100 (0, 0)) ∧ Sl wq 3 1 (.slice aa j ac) j (ivals (argL x k j)) ∧ (∀ i ∈ blks (.slice aa j ac), w13.heap.size ≤ i) ∧ Tch [fb] w13 wq)) (fun _ vi _ => al.length - (intOf vi).toNat)
          case atStart => exact ⟨0, none, 0, rfl, Nat.zero_le _, FO13.out, Sl.nil _ _ _, by simp [blks], Tch.refl _ _⟩
          case round =>
            obtain ⟨j, aa, ac, rfl, hj, HJ⟩ := hrel
            rename World => wp
            have L13 : Hid (fb < w13.heap.size) := lt_of_obj FO13.out
            have AFB : Hid (∀ i ∈ blks (.slice aa j ac), ¬ i = fb) := fun i hi e => by have := HJ.out.2.2.1 i hi; have := L13.out; omega
            by_cases hjl : j < al.length
            · obtain ⟨av, hav⟩ : ∃ av, (x + (k : Int) + 5 * (j : Int)) % 6 = av := ⟨_, rfl⟩
              have HAV : Hid (argL x k (j + 1) = argL x k j ++ [av]) := by show _ = _; rw [argL_succ, hav]
              have hv1 : IntKind.i64.wrap x = x := by rw [IntKind.wrap_i64]; omega
              have hv2 : IntKind.i64.wrap (x + (k : Int)) = x + (k : Int) := by rw [IntKind.wrap_i64]; omega
              have hv3 : IntKind.i64.wrap (5 * (j : Int)) = 5 * (j : Int) := by rw [IntKind.wrap_i64]; omega
              have hv4 : IntKind.i64.wrap (x + (k : Int) + 5 * (j : Int)) = x + (k : Int) + 5 * (j : Int) := by rw [IntKind.wrap_i64]; omega
              have hv5 : (x + (k : Int) + 5 * (j : Int)).tmod 6 = av := by rw [Int.tmod_eq_emod_of_nonneg (by omega), hav]
              have hv6 : IntKind.i64.wrap av = av := by rw [IntKind.wrap_i64]; omega
              have SA := hid HJ.out.2.1
              have HFO := hid HJ.out.1
              have HBF2 := hid HJ.out.2.2.1
              have TJ := hid HJ.out.2.2.2
              have cf := cell_of_row _ _ 2 _ _ _ HFO.out
              simp only [List.getElem?_toArray, List.getElem?_cons_zero, List.getElem?_cons_succ] at cf
              have lf := lt_of_obj HFO.out
              clear hav HJ
              go_upto_region 18 with (at_builtin; refine wpList_append_t _ rfl _ _ 39 rfl Tryz.underlying39 info_int rfl (by decide) (.slice aa j ac) rfl (SA.out.kept ((Tch.refl [] wp).alloc (.cells #[.int .i64 av] 3)) (by simp)) ⟨wp.heap.size, 0, none⟩ 1 1 rfl [.int .i64 av] rfl (fun j u hj => by rw [Addr.add_lit, Nat.zero_add, cell_of_row _ _ j _ _ _ (heap_alloc_new wp (.cells #[.int .i64 av] 3))]; simpa using hj) (by simp [Value.oneCell']) (by omega) ?_; intro v2 x2 sC tC dC oC; obtain ⟨va2, vc2, hv2⟩ := sC.shape; subst hv2; have SC := hid sC; have OC := hid (fun i hi => (oC i hi).imp id (fun h2 => Nat.le_trans ((Tch.refl [] wp).alloc (.cells #[.int .i64 av] 3)).size h2)); have TW := hid (((Tch.refl (blks (.slice aa j ac)) wp).alloc (.cells #[.int .i64 av] 3)).trans tC); have oz := TW.out.obj HFO.out (fun h1 => AFB.out fb h1 rfl); have cz := cell_of_row _ _ 2 _ _ _ oz; simp only [List.getElem?_toArray, List.getElem?_cons_zero, List.getElem?_cons_succ] at cz; have fz : (∀ i, x2.frozen? ⟨fb, i, none⟩ = false) := (fun i => frozen_of_row _ _ _ _ _ oz); have lz := lt_of_obj oz; clear sC tC dC oC oz)
              have SN : Hid (Sl x2 3 1 (.slice va2 (j + 1) vc2) (j + 1) (ivals (argL x k (j + 1)))) := by
                show Sl _ _ _ _ _ _
                rw [HAV.out]
                simpa [ivals] using SC.out
              have of2 : (x2.setCell ⟨fb, 2, none⟩ (.slice va2 (j + 1) vc2)).heap[fb]? = some (.cells #[.int .i64 d, .slice fa al.length fc, .slice va2 (j + 1) vc2] 100 (0, 0)) := heap_setCell_same _ _ _ _ _ _ (TW.out.obj HFO.out (fun h1 => AFB.out fb h1 rfl))
              have tS : Tch [fb] x2 (x2.setCell ⟨fb, 2, none⟩ (.slice va2 (j + 1) vc2)) := (Tch.refl [fb] x2).setCell (p := ⟨fb, 2, none⟩) (.inl (by simp)) _
              have NB : ∀ i ∈ blks (.slice va2 (j + 1) vc2), w13.heap.size ≤ i ∧ ¬ i = fb := fun i hi => by
                rcases OC.out i hi with h2 | h2
                · exact ⟨HBF2.out i h2, AFB.out i h2⟩
                · exact ⟨Nat.le_trans TJ.out.size h2, by have := L13.out; have := TJ.out.size; omega⟩
              have N1 := hid of2
              have N2 := hid (SN.out.kept tS (fun i hi hm => by simp at hm; exact (NB i hi).2 hm))
              have N3 : Hid (∀ i ∈ blks (.slice va2 (j + 1) vc2), w13.heap.size ≤ i) := fun i hi => (NB i hi).1
              have N4 : Hid (Tch [fb] w13 (x2.setCell ⟨fb, 2, none⟩ (.slice va2 (j + 1) vc2))) := (TJ.out.trans2 TW.out (fun i hi => .inr (HBF2.out i hi))).trans2 tS (fun i hi => .inl hi)
              clear SC TW OC SN of2 tS NB cf lf cz fz lz SA HFO HBF2 TJ hv1 hv2 hv3 hv4 hv5 hv6
              generalize x2.setCell ⟨fb, 2, none⟩ (.slice va2 (j + 1) vc2) = wn at *
              go_wp2_with fail
              go_roundw
              case rel => exact ⟨j + 1, va2, vc2, by go_num, by omega, N1.out, N2.out, N3.out, N4.out⟩
              case measure => simp [intOf]; omega
            · obtain rfl : j = al.length := by omega
              have SA := hid HJ.out.2.1
              have HFO := hid HJ.out.1
              have TJ := hid HJ.out.2.2.2
              have SFP := hid (S13.out.kept TJ.out (fun i hi hm => by simp at hm; exact FFB.out i hi hm))
              have TRP : Hid (Tch [] wr wp) := (T9.out.trans2 T913.out (fun i hi => .inr (by simp at hi; subst hi; have := HFB.out; omega))).trans2 TJ.out (fun i hi => .inr (by simp at hi; subst hi; have := HFB.out; omega))
              have PSP := hid (PS.out.tch TRP.out)
              have hbl : bt.length = bs.length := PSP.out.len
              obtain ⟨B, hB⟩ : ∃ B, bt[im]? = some B := ⟨bt[im]'(by omega), List.getElem?_eq_getElem (by omega)⟩
              have mB := List.mem_of_getElem? hB
              have HBB := hid hB
              have sB := PSP.out.b
              rw [← PSP.out.len] at sB
              obtain ⟨_, y1, _, _, _, _, _⟩ := blk_at sB im hB
              have hpl : B.phis.length ≤ 20 := by
                have h1 := HRB.out.2 im B hB
                have h2 := phK_len FR bs.length l k im
                rw [← h1, List.length_map] at h2
                omega
              have OKF : Hid (∀ W, Tch [] wp W → PhiOk W (⟨d, .slice fa al.length fc, FR im, .slice aa al.length ac, argL x k al.length⟩ : PhiM)) := fun W t => ⟨by rw [hfs]; exact SFP.out.kept t (by simp), by rw [argL_len]; exact SA.out.kept t (by simp)⟩
              have cf0 := cell_of_row _ _ 0 _ _ _ HFO.out
              simp only [List.getElem?_toArray, List.getElem?_cons_zero] at cf0
              have HCF := hid (cfphi_any fb d (PSP.out.p B mB) (by omega) (PSP.out.f B mB) cf0)
              obtain ⟨pa2, pc2, hpv⟩ := (PSP.out.p B mB).shape
              rw [hpv] at HCF y1
              have oz := PSP.out.t.obj Z04.out (by simp; exact NE.out.1)
              have c0 := cell_of_row _ _ 0 _ _ _ oz
              simp only [List.getElem?_toArray, List.getElem?_cons_zero] at c0
              have l0 := lt_of_obj oz
              have l1 := cell_lt y1
              simp only at l1
              have HPV := hid hpv
              have HMP : Hid (dstsP B.phis = (phK FR bs.length l k im).map (·.1)) := by show _ = _; rw [← HRB.out.2 im B hB, dsts_abs]
              obtain ⟨pn, hpn⟩ : ∃ pn, B.phis.length = pn := ⟨_, rfl⟩
              have HPN := hid hpn
              rw [hpn] at HCF y1 hpl
              clear HJ sB hB hpv hpn cf0 oz
              by_cases hm : d ∈ dstsP B.phis
              · rw [decide_eq_true hm] at HCF
                have HK1 : Hid (∀ (i : Nat) (C : BlkM), bt[i]? = some C → C.phis.map PhiM.abs = phK FR bs.length l (k + 1) i) := fun i C hC => by
                  rw [phK_no HX.out HIM.out HD.out (fun _ => by rw [← HMP.out]; exact hm)]
                  exact HRB.out.2 i C hC
                clear hm
                go_wp2_with (go_at_call 42; refine HCF.out.mono ?_; rintro e y2 ⟨rfl, g2⟩; have TY := hid (TRP.out.trans g2.tch); clear g2)
                go_roundw
                case rel => exact ⟨k + 1, bt, by go_num, by omega, PS.out.tch TY.out, HRB.out.1, HK1.out⟩
                case measure => simp [intOf]; omega
              · rw [decide_eq_false hm] at HCF
                have HM := hid hm
                clear hm
                go_upto_region 20 with (go_at_call 42; refine HCF.out.mono ?_; rintro e wz ⟨rfl, g2⟩; have TZ := hid g2.tch; clear g2)
                obtain ⟨pv, hpvv⟩ : ∃ pv, Value.slice pa2 pn pc2 = pv := ⟨_, rfl⟩
                have PSZ := hid (PSP.out.tch TZ.out)
                have SPZ : Hid (Sl wz 100 3 (.slice pa2 pn pc2) pn (phiC B.phis)) := by
                  have h := PSZ.out.p B mB
                  rwa [HPV.out, HPN.out] at h
                have FOZ := hid (TZ.out.obj HFO.out (by simp))
                have KT : Hid (∀ w', Tch (blks (.slice pa2 pn pc2)) wz w' → Tch (blks (.slice pa2 pn pc2)) wz w' ∧ w'.cell? ⟨w.heap.size, 0, none⟩ = some (.slice (some ⟨cb, co, none⟩) bs.length cc) ∧ w'.cell? ⟨cb, co + im * 7 + 1, none⟩ = some (.slice pa2 pn pc2) ∧ w'.frozen? ⟨cb, co + im * 7 + 1, none⟩ = false ∧ w'.cell? ⟨fb, 0, none⟩ = some (.int .i64 d) ∧ w'.cell? ⟨fb, 1, none⟩ = some (.slice fa al.length fc) ∧ w'.cell? ⟨fb, 2, none⟩ = some (.slice aa al.length ac)) := fun w' t => by
                  have hop : ∀ i ∈ blks (.slice pa2 pn pc2), W4.heap.size ≤ i ∧ i < wr.heap.size := fun i hi => by
                    have h1 : i ∈ blks B.pv := by rw [HPV.out, HPN.out]; exact hi
                    exact ⟨PS.out.op B mB i h1, (PS.out.p B mB).lt i h1⟩
                  have of := t.obj FOZ.out (fun h1 => by have := (hop fb h1).2; have := HFB.out; omega)
                  have oz := t.obj (PSZ.out.t.obj Z04.out (by simp; exact NE.out.1)) (fun h1 => by have h2 := (hop w.heap.size h1).1; have := lt_of_obj Z04.out; omega)
                  have q0 := cell_of_row _ _ 0 _ _ _ of
                  have q1 := cell_of_row _ _ 1 _ _ _ of
                  have q2 := cell_of_row _ _ 2 _ _ _ of
                  have qz := cell_of_row _ _ 0 _ _ _ oz
                  simp only [List.getElem?_toArray, List.getElem?_cons_zero, List.getElem?_cons_succ] at q0 q1 q2 qz
                  obtain ⟨cur, hcur⟩ := PSZ.out.cbo
                  have hcb : ¬ cb ∈ blks (.slice pa2 pn pc2) := fun h1 => by have := (hop cb h1).1; have := PS.out.lb; omega
                  exact ⟨t, qz, tval t (p := ⟨cb, co + im * 7 + 1, none⟩) (TZ.out.val0 y1) hcb, frozen_of_row _ _ _ _ _ (t.obj hcur hcb), q0, q1, q2⟩
                clear y1 c0 l0 l1
                clear hpvv
                refine wp_region_z (fun w' => Tch (blks (.slice pa2 pn pc2)) wz w' ∧ w'.cell? ⟨w.heap.size, 0, none⟩ = some (.slice (some ⟨cb, co, none⟩) bs.length cc) ∧ w'.cell? ⟨cb, co + im * 7 + 1, none⟩ = some (.slice pa2 pn pc2) ∧ w'.frozen? ⟨cb, co + im * 7 + 1, none⟩ = false ∧ w'.cell? ⟨fb, 0, none⟩ = some (.int .i64 d) ∧ w'.cell? ⟨fb, 1, none⟩ = some (.slice fa al.length fc) ∧ w'.cell? ⟨fb, 2, none⟩ = some (.slice aa al.length ac)) 14 hmo (KT.out _ (Tch.refl _ _).drew) (fun hHeld => ?_)
                have HZ0 := hid hHeld.1.size
                have P0 := hid (SPZ.out.kept ((Tch.refl [] wz).drew) (by simp))
                generalize wz.drew = x0 at *
                refine wpAnyZ_take (i := 0) (v := ?_) rfl (by kernel_rfl) (by kernel_rfl) (by kernel_rfl) (by kernel_rfl) (fun _ _ _ h => h) (Or.inl ⟨by rfl, ?_⟩) (by assumption) ?_
                rotate_left
                (intro w hSw; (try dsimp only at hSw); go_simp; try (with_reducible rfl))
                try simp only [Act.put, List.setIfInBounds_toArray, List.set_cons_zero, List.set_cons_succ]
                refine wpAnyZ_take (i := 1) (v := ?_) rfl (by kernel_rfl) (by kernel_rfl) (by kernel_rfl) (by kernel_rfl) (fun _ _ _ h => h) (Or.inl ⟨by rfl, ?_⟩) (by assumption) ?_
                rotate_left
                (intro w hSw; (try dsimp only at hSw); go_simp; try (with_reducible rfl))
                try simp only [Act.put, List.setIfInBounds_toArray, List.set_cons_zero, List.set_cons_succ]
                refine wpAnyZ_take (i := 2) (v := ?_) rfl (by kernel_rfl) (by kernel_rfl) (by kernel_rfl) (by kernel_rfl) (fun _ _ _ h => h) (Or.inl ⟨by rfl, ?_⟩) (by assumption) ?_
                rotate_left
                (intro w hSw; (try dsimp only at hSw); go_simp; try (with_reducible rfl))
                try simp only [Act.put, List.setIfInBounds_toArray, List.set_cons_zero, List.set_cons_succ]
                refine wpAnyZ_take (i := 3) (v := ?_) rfl (by kernel_rfl) (by kernel_rfl) (by kernel_rfl) (by kernel_rfl) (fun _ _ _ h => h) (Or.inl ⟨by rfl, ?_⟩) (by assumption) ?_
                rotate_left
                (intro w hSw; (try dsimp only at hSw); go_simp; try (with_reducible rfl))
                try simp only [Act.put, List.setIfInBounds_toArray, List.set_cons_zero, List.set_cons_succ]
                refine wpAnyZ_take (i := 4) (v := ?_) rfl (by kernel_rfl) (by kernel_rfl) (by kernel_rfl) (by kernel_rfl) (fun _ _ _ h => h) (Or.inl ⟨by rfl, ?_⟩) (by assumption) ?_
                rotate_left
                (intro w hSw; (try dsimp only at hSw); go_simp; try (with_reducible rfl))
                try simp only [Act.put, List.setIfInBounds_toArray, List.set_cons_zero, List.set_cons_succ]
                refine wpAnyZ_take (i := 5) (v := ?_) rfl (by kernel_rfl) (by kernel_rfl) (by kernel_rfl) (by kernel_rfl) (fun _ _ _ h => h) (Or.inl ⟨by rfl, ?_⟩) (by assumption) ?_
                rotate_left
                (intro w hSw; (try dsimp only at hSw); go_simp; try (with_reducible rfl))
                try simp only [Act.put, List.setIfInBounds_toArray, List.set_cons_zero, List.set_cons_succ]
                refine wpAnyZ_take (i := 6) (v := ?_) rfl (by kernel_rfl) (by kernel_rfl) (by kernel_rfl) (by kernel_rfl) (fun _ _ _ h => h) (Or.inl ⟨by rfl, ?_⟩) (by assumption) ?_
                rotate_left
                (intro w hSw; (try dsimp only at hSw); go_simp; try (with_reducible rfl))
                try simp only [Act.put, List.setIfInBounds_toArray, List.set_cons_zero, List.set_cons_succ]
                refine wpAnyZ_take (i := 7) (v := ?_) rfl (by kernel_rfl) (by kernel_rfl) (by kernel_rfl) (by kernel_rfl) (fun _ _ _ h => h) (Or.inl ⟨by rfl, ?_⟩) (by assumption) ?_
                rotate_left
                (intro w hSw; (try dsimp only at hSw); go_simp; try (with_reducible rfl))
                try simp only [Act.put, List.setIfInBounds_toArray, List.set_cons_zero, List.set_cons_succ]
                refine wpAnyZ_take (i := 8) (v := ?_) rfl (by kernel_rfl) (by kernel_rfl) (by kernel_rfl) (by kernel_rfl) (fun _ _ _ h => h) (Or.inl ⟨by rfl, ?_⟩) (by assumption) ?_
                rotate_left
                (intro w hSw; (try dsimp only at hSw); go_simp; try (with_reducible rfl))
                try simp only [Act.put, List.setIfInBounds_toArray, List.set_cons_zero, List.set_cons_succ]
                refine wpAnyZ_take (i := 9) (v := ?_) rfl (by kernel_rfl) (by kernel_rfl) (by kernel_rfl) (by kernel_rfl) (fun _ _ _ h => h) (Or.inl ⟨by rfl, ?_⟩) (by assumption) ?_
                rotate_left
                (intro w hSw; (try dsimp only at hSw); go_simp; try (with_reducible rfl))
                try simp only [Act.put, List.setIfInBounds_toArray, List.set_cons_zero, List.set_cons_succ]
                refine wpAnyZ_step (i := 10) (by kernel_rfl) rfl (fun Kq hK => ?_)
                have lw0 := cell_lt hHeld.2.2.2.2.1
                simp only at lw0
                go_simp
                refine hK.out _ _ (KT.out _ (hHeld.1.alloc _)) (fun hH2 => ?_)
                clear hHeld hK Kq
                have hHeld := hH2
                clear hH2
                try simp only [Act.put, List.setIfInBounds_toArray, List.set_cons_zero, List.set_cons_succ]
                have OB := hid (heap_alloc_new x0 (.cells #[.int .i64 d, .slice fa al.length fc, .slice aa al.length ac] 100))
                have TB := hid ((Tch.refl [] x0).alloc (.cells #[.int .i64 d, .slice fa al.length fc, .slice aa al.length ac] 100))
                have P1 := hid (P0.out.kept TB.out (by simp))
                generalize x0.alloc (.cells #[.int .i64 d, .slice fa al.length fc, .slice aa al.length ac] 100) = x1 at *
                generalize x0.heap.size = qb at OB ⊢
                refine wpAnyZ_step (i := 11) (by kernel_rfl) rfl (fun Kq hK => ?_)
                refine step_append_t rfl _ _ 46 rfl Tryz.underlying46 info_phi rfl (by decide) (.slice pa2 pn pc2) rfl P1.out ⟨qb, 0, none⟩ 1 1 rfl [.int .i64 d, .slice fa al.length fc, .slice aa al.length ac] rfl (fun j u hj => by rw [Addr.add_lit, Nat.zero_add, cell_of_row _ _ j _ _ _ OB.out]; simpa using hj) (by simp [Value.oneCell']) (by omega) ?_
                intro v2 x2 sC tC dC oC
                obtain ⟨va2, vc2, hv2⟩ := sC.shape
                subst hv2
                have SC := hid sC
                refine hK.out _ _ (KT.out _ (hHeld.1.trans tC)) (fun hH2 => ?_)
                clear hHeld hK Kq
                have hHeld := hH2
                clear hH2
                try simp only [Act.put, List.setIfInBounds_toArray, List.set_cons_zero, List.set_cons_succ]
                have OC := hid (fun i hi => (oC i hi).imp id (fun h2 => Nat.le_trans (Nat.le_trans HZ0.out TB.out.size) h2))
                have TW := hid hHeld.1
                clear sC tC oC dC
                refine wpAnyZ_step (i := 12) (by kernel_rfl) rfl (fun Kq hK => ?_)
                go_simp
                refine hK.out _ _ (hHeld) (fun hH2 => ?_)
                clear hHeld hK Kq
                have hHeld := hH2
                clear hH2
                try simp only [Act.put, List.setIfInBounds_toArray, List.set_cons_zero, List.set_cons_succ]
                refine wpAnyZ_take (i := 13) (v := ?_) rfl (by kernel_rfl) (by kernel_rfl) (by kernel_rfl) (by kernel_rfl) (fun _ _ _ h => h) (Or.inl ⟨by rfl, ?_⟩) (by assumption) ?_
                rotate_left
                (intro w hSw; (try dsimp only at hSw); go_simp; try (with_reducible rfl))
                try simp only [Act.put, List.setIfInBounds_toArray, List.set_cons_zero, List.set_cons_succ]
                refine wpAnyZ_last (by kernel_rfl) rfl (fun Kq hK => ?_)
                go_simp
                refine hK.out _ _ ?_
                clear hK Kq
                try simp only [Act.put, List.setIfInBounds_toArray, List.set_cons_zero, List.set_cons_succ]
                clear hHeld
                refine wpAnyZ_done (by kernel_rfl) (NoPanic.normal ?_) _
                have sN : Sl x2 100 3 (.slice va2 (pn + 1) vc2) (B.phis ++ [(⟨d, .slice fa al.length fc, FR im, .slice aa al.length ac, argL x k al.length⟩ : PhiM)]).length (phiC (B.phis ++ [(⟨d, .slice fa al.length fc, FR im, .slice aa al.length ac, argL x k al.length⟩ : PhiM)])) := by
                  rw [show (B.phis ++ [(⟨d, .slice fa al.length fc, FR im, .slice aa al.length ac, argL x k al.length⟩ : PhiM)]).length = pn + 1 by rw [List.length_append, HPN.out]; rfl, show phiC (B.phis ++ [(⟨d, .slice fa al.length fc, FR im, .slice aa al.length ac, argL x k al.length⟩ : PhiM)]) = phiC B.phis ++ [.int .i64 d, .slice fa al.length fc, .slice aa al.length ac] by unfold phiC; rw [List.flatMap_append]; rfl]
                  exact SC.out
                have hpvB : blks B.pv = blks (.slice pa2 pn pc2) := by rw [HPV.out, HPN.out]
                have PN := hid (PSZ.out.app (v2 := .slice va2 (pn + 1) vc2) HBB.out (OKF.out wz TZ.out) sN (by rw [hpvB]; exact TW.out) (by rw [hpvB]; exact OC.out))
                have TE : Hid (bt.set im { B with pv := .slice va2 (pn + 1) vc2, phis := B.phis ++ [(⟨d, .slice fa al.length fc, FR im, .slice aa al.length ac, argL x k al.length⟩ : PhiM)] } = bt.set im { B with pv := .slice va2 (pn + 1) vc2, phis := B.phis ++ [(⟨d, .slice fa al.length fc, FR im, .slice aa al.length ac, argL x k al.length⟩ : PhiM)] }) := rfl
                have HRN : Hid ((bt.set im { B with pv := .slice va2 (pn + 1) vc2, phis := B.phis ++ [(⟨d, .slice fa al.length fc, FR im, .slice aa al.length ac, argL x k al.length⟩ : PhiM)] }).map BlkM.ab = bs.map BlkM.ab ∧ ∀ (i : Nat) (C : BlkM), (bt.set im { B with pv := .slice va2 (pn + 1) vc2, phis := B.phis ++ [(⟨d, .slice fa al.length fc, FR im, .slice aa al.length ac, argL x k al.length⟩ : PhiM)] })[i]? = some C → C.phis.map PhiM.abs = phK FR bs.length l (k + 1) i) := by
                  refine ⟨(set_ab HBB.out (by rfl)).trans HRB.out.1, fun i C hC => ?_⟩
                  rw [List.getElem?_set] at hC
                  by_cases e : im = i
                  · subst e
                    rw [if_pos rfl, if_pos (by omega)] at hC
                    cases hC
                    rw [phK_yes HX.out HIM.out HD.out (by rw [← HMP.out]; exact HM.out), hfs, ← HRB.out.2 im B HBB.out]
                    simp [PhiM.abs]
                  · rw [if_neg e] at hC
                    rw [phK_no HX.out HIM.out HD.out (fun h => absurd h.symm e)]
                    exact HRB.out.2 i C hC
                clear KT SC TW OC P0 P1 OB TB HZ0 sN hpvB TE
                generalize x2.setCell ⟨cb, co + im * 7 + 1, none⟩ (.slice va2 (pn + 1) vc2) = wn at *
                go_wp2_with fail
                go_roundw
                case rel => exact ⟨k + 1, _, by go_num, by omega, PN.out, HRN.out⟩
                case measure => simp [intOf]; omega
    · obtain rfl : k = l.length := by omega
      have o0 := PS.out.t.obj Z04.out (by simp; exact NE.out.1)
      have o1 := PS.out.t.obj Z14.out (by simp; exact NE.out.2.1)
      have c0 := cell_of_row _ _ 0 _ _ _ o0
      have c1 := cell_of_row _ _ 0 _ _ _ o1
      simp only [List.getElem?_toArray, List.getElem?_cons_zero] at c0 c1
      have f1 : ∀ i, wr.frozen? ⟨w.heap.size + 1, i, none⟩ = false := fun i => frozen_of_row _ _ _ _ _ o1
      have l0 := lt_of_obj o0
      have l1 := lt_of_obj o1
      have TWR : Hid (Tch [] w wr) := T4.out.trans2 PS.out.t (fun k hk => .inr (by simp at hk; subst hk; exact CBW.out))
      have S4 : Hid (w.heap.size ≤ W4.heap.size) := T4.out.size
      have tS : Tch [w.heap.size + 1] wr (wr.setCell ⟨w.heap.size + 1, 0, none⟩ (.slice (some ⟨cb, co, none⟩) bs.length cc)) := (Tch.refl _ wr).setCell (p := ⟨w.heap.size + 1, 0, none⟩) (.inl (by simp)) _
      have oS : (wr.setCell ⟨w.heap.size + 1, 0, none⟩ (.slice (some ⟨cb, co, none⟩) bs.length cc)).heap[w.heap.size + 1]? = some (.cells #[.slice (some ⟨cb, co, none⟩) bs.length cc] 28 (0, 0)) := heap_setCell_same _ _ _ _ _ _ o1
      have PE := hid (PS.out.prg (w0 := w) tS o1 S4.out CBW.out)
      have TE : Hid (Tch [] w (wr.setCell ⟨w.heap.size + 1, 0, none⟩ (.slice (some ⟨cb, co, none⟩) bs.length cc))) := TWR.out.trans2 tS (fun i hi => .inr (by simp at hi; omega))
      have e0 := cell_of_row _ _ 0 _ _ _ oS
      simp only [List.getElem?_toArray, List.getElem?_cons_zero] at e0
      clear o0 o1 tS oS PS TWR
      go_wp2_with fail
      refine bodyPost_ret (v := .agg #[.slice (some ⟨cb, co, none⟩) bs.length cc]) (by simp [results, Tryz.results18, go_sem, e0]) rfl ?_
      refine ⟨A, FAH.out, cb, co, cc, bt, rfl, PE.out, HRB.out.1, fun i B hB => ?_, TE.out⟩
      rw [HRB.out.2 i B hB]
      rw [show FR = (fun i : Nat => frmL (labsOf bs) (A i)) from funext fun i => HFR.out i]
end Go.Proofs.YtcpbijlcflaomaaGreatDoor


/- A law's program with phis put in may be. -/
set_option linter.unusedSimpArgs false
set_option linter.unusedVariables false
namespace Go.Proofs.YtcpbijlcflaomaaGreatDoor
open Go.RowKit Go.Sort Go.Maps

theorem entsE_ok {labs : List Int} : ∀ (frm arg : List Int) (first : Bool) (prev : Int), (∀ l ∈ frm, l ∈ labs) → frm.Pairwise (· < ·) → (∀ r ∈ arg, regB r = true) → (first = true ∨ ∀ l ∈ frm, prev < l) → entsE labs first prev frm arg = 0
  | [], _, _, _, _, _, _, _ => by unfold entsE; rfl
  | l :: ls, [], _, _, _, _, _, _ => by unfold entsE; rfl
  | l :: ls, r :: rs, first, prev, hl, hp, hr, hf => by
    have h1 : entE labs first prev l r = 0 := by
      unfold entE
      rw [if_neg (not_not_intro (hl l (by simp))), if_neg, if_neg (by rw [hr r (by simp)]; simp)]
      rintro ⟨h2, h3⟩
      rcases hf with h4 | h4
      · exact h2 h4
      · have := h4 l (by simp); omega
    have hp2 := List.pairwise_cons.1 hp
    unfold entsE
    rw [if_pos h1]
    exact entsE_ok ls rs false l (fun x hx => hl x (by simp [hx])) hp2.2 (fun x hx => hr x (by simp [hx])) (.inr hp2.1)
theorem frmL_mem {labs A : List Int} {x : Int} : x ∈ frmL labs A ↔ ∃ a ∈ A, labs.getD a.toNat 0 = x := by
  unfold frmL
  rw [List.mem_mergeSort, List.mem_map]
theorem frmL_rise {labs A : List Int} (hn : labs.Nodup) (hA : Rise ltI A) (hr : ∀ a ∈ A, 0 ≤ a ∧ a < (labs.length : Int)) : (frmL labs A).Pairwise (· < ·) := by
  have h1 : (frmL labs A).Pairwise (fun a b => decide (a ≤ b) = true) := by
    unfold frmL
    exact List.pairwise_mergeSort (fun a b c h1 h2 => by simp at *; omega) (fun a b => by simp; omega) _
  have h2 : (A.map fun a => labs.getD a.toNat 0).Nodup := by
    rw [List.nodup_iff_pairwise_ne, List.pairwise_map]
    refine List.Pairwise.imp_of_mem ?_ hA
    intro a b ha hb hab e
    have ra := hr a ha
    have rb := hr b hb
    have hlt : a < b := by simpa [ltI] using hab
    have ea : labs.getD a.toNat 0 = labs[a.toNat]'(by omega) := by rw [List.getD_eq_getElem?_getD, List.getElem?_eq_getElem (by omega)]; rfl
    have eb : labs.getD b.toNat 0 = labs[b.toNat]'(by omega) := by rw [List.getD_eq_getElem?_getD, List.getElem?_eq_getElem (by omega)]; rfl
    rw [ea, eb] at e
    have := (List.getElem?_inj (i := a.toNat) (j := b.toNat) (by omega) hn).1 (by rw [List.getElem?_eq_getElem (by omega), List.getElem?_eq_getElem (by omega), e])
    omega
  have h3 : (frmL labs A).Nodup := by
    unfold frmL
    exact (List.mergeSort_perm _ _).nodup_iff.2 h2
  rw [List.nodup_iff_pairwise_ne] at h3
  refine (h1.and h3).imp ?_
  rintro a b ⟨h4, h5⟩
  have : a ≤ b := by simpa using h4
  omega
theorem argL_reg (x k : Int) (n : Nat) : ∀ r ∈ argL x k n, regB r = true := fun r hr => by
  unfold argL at hr
  obtain ⟨j, _, rfl⟩ := List.mem_map.1 hr
  have h1 := Int.emod_nonneg (x + k + 5 * (j : Int)) (show (6 : Int) ≠ 0 by omega)
  have h2 := Int.emod_lt_of_pos (x + k + 5 * (j : Int)) (show (0 : Int) < 6 by omega)
  unfold regB; exact decide_eq_true (by omega)
theorem phK_mem {fr : Nat → List Int} {n : Nat} {l : List Int} : ∀ k j f, f ∈ phK fr n l k j → (0 ≤ f.1 ∧ f.1 < 6) ∧ f.2.1 = fr j ∧ ∃ x k', f.2.2 = argL x k' (fr j).length
  | 0, _, _, h => by simp [phK] at h
  | k + 1, j, f, h => by
    rw [phK] at h
    dsimp only at h
    split at h
    · rcases List.mem_append.1 h with h | h
      · exact phK_mem k j f h
      · simp at h
        subst h
        exact ⟨⟨Int.emod_nonneg _ (by omega), Int.emod_lt_of_pos _ (by omega)⟩, rfl, _, _, rfl⟩
    · exact phK_mem k j f h
/-- **It may be.** -/
theorem phis_check {s : SmlM} {bs bt : List BlkM} (h8 : s.bs.length ≤ 8) (h : Prog1 s bs) (hab : bt.map BlkM.ab = bs.map BlkM.ab) {A : Int → List Int} (hA : FA bs.length (2 * bs.length) (gof bs) A) (l : List Int) (hl : l.length ≤ 20)
    (hp : ∀ (i : Nat) (B : BlkM), bt[i]? = some B → B.phis.map PhiM.abs = phK (fun i => frmL (labsOf bs) (A i)) bs.length l l.length i) : checkE bt = 0 ∧ (∀ B ∈ bt, BlkWf B) ∧ countM bt ≤ 400 := by
  have hln := len_in s h8
  have hn := h.n
  have hbt : bt.length = bs.length := by have := congrArg List.length hab; simpa using this
  have hlabs : labsOf bt = labsOf bs := labs_ab hab
  have lset : ∀ x ∈ labsOf bs, 0 ≤ x ∧ x < 100000 := by rw [h.l]; exact fun x hx => progL_small h8 hx
  have lnd : (labsOf bs).Nodup := by rw [h.l]; exact progL_nodup s
  have llen : (labsOf bs).length = bs.length := by simp [labsOf]
  have each : ∀ B ∈ bt, B.phis.length ≤ 20 ∧ B.ins.length ≤ 16 ∧ (∀ q ∈ B.ins, insE q = 0 ∧ 0 ≤ q.k) ∧ lastE (progL s) B.e B.a B.y B.n = 0 ∧ wfI B.lab ∧ wfI B.y ∧ wfI B.n ∧ ∀ f ∈ B.phis, phiE (labsOf bs) f = 0 ∧ ∀ z ∈ f.frm, wfI z := fun B hB => by
    obtain ⟨i, hi⟩ := List.getElem?_of_mem hB
    have hil : i < bs.length := by have := (List.getElem?_eq_some_iff.1 hi).1; omega
    have h1 : B.ab ∈ bs.map BlkM.ab := by rw [← hab]; exact List.mem_map.2 ⟨B, hB, rfl⟩
    obtain ⟨C, hC, e⟩ := List.mem_map.1 h1
    have g := h.g C hC
    rw [e] at g
    have hph := hp i B hi
    have hpl : B.phis.length ≤ l.length := by
      have h2 := phK_len (fun i => frmL (labsOf bs) (A i)) bs.length l l.length i
      rw [← hph, List.length_map] at h2
      exact h2
    refine ⟨by omega, g.m, g.i, g.l, g.b, g.y, g.n, fun f hf => ?_⟩
    have hm : f.abs ∈ phK (fun i => frmL (labsOf bs) (A i)) bs.length l l.length i := by rw [← hph]; exact List.mem_map.2 ⟨f, hf, rfl⟩
    obtain ⟨m1, m2, x, k', m3⟩ := phK_mem _ _ _ hm
    have e1 : f.frm = frmL (labsOf bs) (A i) := m2
    have e2 : f.arg = argL x k' (frmL (labsOf bs) (A i)).length := m3
    have hrng : ∀ a ∈ A i, 0 ≤ a ∧ a < ((labsOf bs).length : Int) := fun a ha => by
      rw [llen]
      exact (hA.rng a i ((hA.mem a i).2 ha)).1
    have hin : ∀ z ∈ f.frm, z ∈ labsOf bs := fun z hz => by
      rw [e1, frmL_mem] at hz
      obtain ⟨a, ha, rfl⟩ := hz
      have := hrng a ha
      rw [List.getD_eq_getElem?_getD, List.getElem?_eq_getElem (by omega)]
      exact List.getElem_mem _
    refine ⟨?_, fun z hz => wf_small (lset z (hin z hz))⟩
    unfold phiE
    rw [if_neg (by rw [e2, e1, argL_len]; simp), if_neg]
    · exact entsE_ok _ _ _ _ hin (by rw [e1]; exact frmL_rise lnd (hA.rise i) hrng) (by rw [e2]; exact argL_reg _ _ _) (.inl rfl)
    · have : regB f.d = true := by unfold regB; exact decide_eq_true (by have h1 : 0 ≤ f.d ∧ f.d < 6 := m1; omega)
      rw [this]; simp
  have hcount : countM bt ≤ 400 := by
    have h1 : ∀ q : List BlkM, (∀ B ∈ q, B ∈ bt) → countM q ≤ q.length * 37 := fun q => by
      induction q with
      | nil => intro _; simp [countM]
      | cons B r ih =>
        intro hB
        have h2 := ih (fun C hC => hB C (by simp [hC]))
        have h3 := each B (hB B (by simp))
        have e : countM (B :: r) = 1 + B.phis.length + B.ins.length + countM r := by simp [countM]
        rw [e, List.length_cons, Nat.add_mul]
        omega
    have := h1 bt (fun B hB => hB)
    omega
  refine ⟨?_, fun B hB => ⟨(each B hB).2.2.2.2.1, (each B hB).2.2.2.2.2.1, (each B hB).2.2.2.2.2.2.1, fun q hq z hz => ((each B hB).2.2.2.2.2.2.2 q hq).2 z hz, fun q hq => ((each B hB).2.2.1 q hq).2⟩, hcount⟩
  have hls : labsE (labsOf bt) [] = 0 := by rw [hlabs]; exact labsE_ok _ _ lset lnd (fun x _ => by simp)
  unfold checkE
  rw [if_neg (by omega), if_neg (by omega), if_neg (not_not_intro hls)]
  apply firstE_zeros
  intro y hy
  obtain ⟨B, hB, rfl⟩ := List.mem_map.1 hy
  unfold blkE
  apply firstE_zeros
  intro z hz
  have hb := each B hB
  rw [hlabs] at hz
  simp only [List.mem_append, List.mem_map, List.mem_cons, List.not_mem_nil, or_false] at hz
  rcases hz with (⟨f, hf, rfl⟩ | ⟨q, hq, rfl⟩) | rfl
  · exact (hb.2.2.2.2.2.2.2 f hf).1
  · exact (hb.2.2.1 q hq).1
  · rw [h.l]; exact hb.2.2.2.1
end Go.Proofs.YtcpbijlcflaomaaGreatDoor

