
/- Clones: lists that lie apart. -/
import Derived.Test.YtjkokokddijpkaaDoorSk
import Derived.Test.YtjkokokddijpkaaDoorSmI
import Derived.Test.YtjkokokddijpkaaDoorLc
set_option linter.unusedSimpArgs false
set_option linter.unusedVariables false
namespace Go.Proofs.YtjkokokddijpkaaDoor
open Go.RowKit Go.Sort Go.Maps

theorem info_phi : (Tryd.prog.info? 35).map (fun i => (i.zero, i.size, i.bytes)) = some (some (.agg #[.int .i64 0, .slice none 0 0, .slice none 0 0]), 3, 56) := by kernel_rfl
theorem phi_one {w : World} {l : List PhiM} (h : ∀ x ∈ l, PhiOk w x) : ∀ u ∈ phiC l, u.oneCell' = true := fun u hu => by
  unfold phiC at hu
  obtain ⟨x, hx, hu⟩ := List.mem_flatMap.1 hu
  obtain ⟨pa, pc, hp⟩ := (h x hx).f.shape
  obtain ⟨ia, ic, hi⟩ := (h x hx).a.shape
  simp [PhiM.cells, hp, hi] at hu
  rcases hu with rfl | rfl | rfl <;> rfl
theorem ivals_one (l : List Int) : ∀ u ∈ ivals l, u.oneCell' = true := fun u hu => by
  unfold ivals at hu
  obtain ⟨x, _, rfl⟩ := List.mem_map.1 hu
  rfl
set_option maxRecDepth 100000 in
set_option maxHeartbeats 1000000 in
theorem clone_ints (v : Value) (l : List Int) (hl : l.length ≤ 1000000) (w : World) (h : Sl w 3 1 v l.length (ivals l)) :
    Calls Tryd.prog 29 #[v] w fun e w' => ∃ v', e = .returned v' ∧ Sl w' 3 1 v' l.length (ivals l) ∧ Gr w w' ∧ ∀ x ∈ blks v', w.heap.size ≤ x := by
  have HS := hid h
  have HO := hid (ivals_one l)
  have qT : ∀ (w : World) (a : Option Addr) (n c : Nat), (binOp .eql 33 (.slice a n c) (.slice none 0 0)).run Tryd.prog w = .ok (.bool a.isNone) w := fun w a n c => Lib.run_eql_slice_nil w _ _ a n c 0 0 Tryd.underlying33
  obtain ⟨h0, ⟨rfl, hn⟩ | ⟨b, off, cap, cur, rfl, g1, g2, g3, g4, g5⟩⟩ := h
  · go_enter Tryd.func29, Tryd.ntmps29
    go_wp2
    go_ret
    exact ⟨_, rfl, HS.out, Gr.refl _, by simp [blks]⟩
  · have HC := hid (fun (W : World) (g : Gr w W) => ((HS.out).gr g).cell.2.1)
    have HL := hid h0
    have lb := lt_of_obj g1
    obtain ⟨k, hk⟩ : ∃ k, l.length = k := ⟨_, rfl⟩
    rw [hk] at hl HL HS ⊢
    clear g1 g2 g3 g4 g5 h0 hk
    generalize ivals l = cs at HC HL HS HO ⊢
    go_enter Tryd.func29, Tryd.ntmps29
    go_wp2_with (first | (at_builtin; refine wpList_append_sl _ rfl _ _ 33 rfl Tryd.underlying33 info_int rfl (by decide) (.slice (some ⟨w.heap.size, 0, none⟩) 0 0) rfl (sl_new w _ rfl 3 1 0 [] rfl (by simp [maxLen])) ⟨b, off, none⟩ k cap rfl cs HL.out (fun j u hj => by rw [Addr.add_lit]; exact HC.out _ ((Gr.refl w).alloc _) j u hj) HO.out (by omega) ?_; intro v' w' hs' hq))
    obtain ⟨gq, hB⟩ := hq w ((Gr.refl w).alloc _) (by simp [blks])
    rw [Nat.zero_add, List.nil_append] at hs'
    obtain ⟨va', vc', rfl⟩ := hs'.shape
    have HS2 := hid hs'
    have HB := hid hB
    have HG := hid gq
    clear hs' hB gq hq
    go_wp2
    go_ret
    exact ⟨_, rfl, HS2.out, HG.out, HB.out⟩
set_option maxRecDepth 100000 in
set_option maxHeartbeats 1000000 in
theorem clone_phis (v : Value) (l : List PhiM) (hl : l.length ≤ 1000000) (w : World) (h : Sl w 35 3 v l.length (phiC l)) (hb : ∀ B ∈ l, PhiOk w B) :
    Calls Tryd.prog 27 #[v] w fun e w' => ∃ v', e = .returned v' ∧ Sl w' 35 3 v' l.length (phiC l) ∧ Gr w w' ∧ ∀ x ∈ blks v', w.heap.size ≤ x := by
  have HS := hid h
  have HO := hid (phi_one hb)
  have qT : ∀ (w : World) (a : Option Addr) (n c : Nat), (binOp .eql 36 (.slice a n c) (.slice none 0 0)).run Tryd.prog w = .ok (.bool a.isNone) w := fun w a n c => Lib.run_eql_slice_nil w _ _ a n c 0 0 Tryd.underlying36
  obtain ⟨h0, ⟨rfl, hn⟩ | ⟨b, off, cap, cur, rfl, g1, g2, g3, g4, g5⟩⟩ := h
  · go_enter Tryd.func27, Tryd.ntmps27
    go_wp2
    go_ret
    exact ⟨_, rfl, HS.out, Gr.refl _, by simp [blks]⟩
  · have HC := hid (fun (W : World) (g : Gr w W) => ((HS.out).gr g).cell.2.1)
    have HL := hid h0
    have lb := lt_of_obj g1
    obtain ⟨k, hk⟩ : ∃ k, l.length = k := ⟨_, rfl⟩
    rw [hk] at hl HL HS ⊢
    clear g1 g2 g3 g4 g5 h0 hk
    generalize phiC l = cs at HC HL HS HO ⊢
    go_enter Tryd.func27, Tryd.ntmps27
    go_wp2_with (first | (at_builtin; refine wpList_append_sl _ rfl _ _ 36 rfl Tryd.underlying36 info_phi rfl (by decide) (.slice (some ⟨w.heap.size, 0, none⟩) 0 0) rfl (sl_new w _ rfl 35 3 0 [] rfl (by simp [maxLen])) ⟨b, off, none⟩ k cap rfl cs HL.out (fun j u hj => by rw [Addr.add_lit]; exact HC.out _ ((Gr.refl w).alloc _) j u hj) HO.out (by omega) ?_; intro v' w' hs' hq))
    obtain ⟨gq, hB⟩ := hq w ((Gr.refl w).alloc _) (by simp [blks])
    rw [Nat.zero_add, List.nil_append] at hs'
    obtain ⟨va', vc', rfl⟩ := hs'.shape
    have HS2 := hid hs'
    have HB := hid hB
    have HG := hid gq
    clear hs' hB gq hq
    go_wp2
    go_ret
    exact ⟨_, rfl, HS2.out, HG.out, HB.out⟩
set_option maxRecDepth 100000 in
set_option maxHeartbeats 1000000 in
theorem clone_insM (v : Value) (l : List InsM) (hl : l.length ≤ 1000000) (w : World) (h : Sl w 48 7 v l.length (insC l)) :
    Calls Tryd.prog 28 #[v] w fun e w' => ∃ v', e = .returned v' ∧ Sl w' 48 7 v' l.length (insC l) ∧ Gr w w' ∧ ∀ x ∈ blks v', w.heap.size ≤ x := by
  have HS := hid h
  have HO := hid (ins_one l)
  have qT : ∀ (w : World) (a : Option Addr) (n c : Nat), (binOp .eql 37 (.slice a n c) (.slice none 0 0)).run Tryd.prog w = .ok (.bool a.isNone) w := fun w a n c => Lib.run_eql_slice_nil w _ _ a n c 0 0 Tryd.underlying37
  obtain ⟨h0, ⟨rfl, hn⟩ | ⟨b, off, cap, cur, rfl, g1, g2, g3, g4, g5⟩⟩ := h
  · go_enter Tryd.func28, Tryd.ntmps28
    go_wp2
    go_ret
    exact ⟨_, rfl, HS.out, Gr.refl _, by simp [blks]⟩
  · have HC := hid (fun (W : World) (g : Gr w W) => ((HS.out).gr g).cell.2.1)
    have HL := hid h0
    have lb := lt_of_obj g1
    obtain ⟨k, hk⟩ : ∃ k, l.length = k := ⟨_, rfl⟩
    rw [hk] at hl HL HS ⊢
    clear g1 g2 g3 g4 g5 h0 hk
    generalize insC l = cs at HC HL HS HO ⊢
    go_enter Tryd.func28, Tryd.ntmps28
    go_wp2_with (first | (at_builtin; refine wpList_append_sl _ rfl _ _ 37 rfl Tryd.underlying37 info_ins rfl (by decide) (.slice (some ⟨w.heap.size, 0, none⟩) 0 0) rfl (sl_new w _ rfl 48 7 0 [] rfl (by simp [maxLen])) ⟨b, off, none⟩ k cap rfl cs HL.out (fun j u hj => by rw [Addr.add_lit]; exact HC.out _ ((Gr.refl w).alloc _) j u hj) HO.out (by omega) ?_; intro v' w' hs' hq))
    obtain ⟨gq, hB⟩ := hq w ((Gr.refl w).alloc _) (by simp [blks])
    rw [Nat.zero_add, List.nil_append] at hs'
    obtain ⟨va', vc', rfl⟩ := hs'.shape
    have HS2 := hid hs'
    have HB := hid hB
    have HG := hid gq
    clear hs' hB gq hq
    go_wp2
    go_ret
    exact ⟨_, rfl, HS2.out, HG.out, HB.out⟩
set_option maxRecDepth 100000 in
set_option maxHeartbeats 1000000 in
theorem clone_blksM (v : Value) (l : List BlkM) (hl : l.length ≤ 1000000) (w : World) (h : Sl w 42 7 v l.length (blkC l)) (hb : ∀ B ∈ l, BlkOk w B) :
    Calls Tryd.prog 26 #[v] w fun e w' => ∃ v', e = .returned v' ∧ Sl w' 42 7 v' l.length (blkC l) ∧ Gr w w' ∧ ∀ x ∈ blks v', w.heap.size ≤ x := by
  have HS := hid h
  have HO := hid (blk_one hb)
  have qT : ∀ (w : World) (a : Option Addr) (n c : Nat), (binOp .eql 27 (.slice a n c) (.slice none 0 0)).run Tryd.prog w = .ok (.bool a.isNone) w := fun w a n c => Lib.run_eql_slice_nil w _ _ a n c 0 0 Tryd.underlying27
  obtain ⟨h0, ⟨rfl, hn⟩ | ⟨b, off, cap, cur, rfl, g1, g2, g3, g4, g5⟩⟩ := h
  · go_enter Tryd.func26, Tryd.ntmps26
    go_wp2
    go_ret
    exact ⟨_, rfl, HS.out, Gr.refl _, by simp [blks]⟩
  · have HC := hid (fun (W : World) (g : Gr w W) => ((HS.out).gr g).cell.2.1)
    have HL := hid h0
    have lb := lt_of_obj g1
    obtain ⟨k, hk⟩ : ∃ k, l.length = k := ⟨_, rfl⟩
    rw [hk] at hl HL HS ⊢
    clear g1 g2 g3 g4 g5 h0 hk
    generalize blkC l = cs at HC HL HS HO ⊢
    go_enter Tryd.func26, Tryd.ntmps26
    go_wp2_with (first | (at_builtin; refine wpList_append_sl _ rfl _ _ 27 rfl Tryd.underlying27 info_blk rfl (by decide) (.slice (some ⟨w.heap.size, 0, none⟩) 0 0) rfl (sl_new w _ rfl 42 7 0 [] rfl (by simp [maxLen])) ⟨b, off, none⟩ k cap rfl cs HL.out (fun j u hj => by rw [Addr.add_lit]; exact HC.out _ ((Gr.refl w).alloc _) j u hj) HO.out (by omega) ?_; intro v' w' hs' hq))
    obtain ⟨gq, hB⟩ := hq w ((Gr.refl w).alloc _) (by simp [blks])
    rw [Nat.zero_add, List.nil_append] at hs'
    obtain ⟨va', vc', rfl⟩ := hs'.shape
    have HS2 := hid hs'
    have HB := hid hB
    have HG := hid gq
    clear hs' hB gq hq
    go_wp2
    go_ret
    exact ⟨_, rfl, HS2.out, HG.out, HB.out⟩
/-- No two of these lists share a block. -/
def Apt (l : List Value) : Prop := l.Pairwise fun a b => ∀ k ∈ blks a, ¬ k ∈ blks b
def pfa (x : PhiM) : List Value := [x.fv, x.av]
/-- The lists of a block. -/
def lsts (B : BlkM) : List Value := B.pv :: B.iv :: B.phis.flatMap pfa
/-- Blocks whose lists lie apart, from lo on, ahead of hi. -/
structure OwnL (lo hi : Nat) (w : World) (cl : List BlkM) : Prop where
  q : ∀ B ∈ cl, BlkOk w B
  b : ∀ u ∈ cl.flatMap lsts, ∀ k ∈ blks u, lo ≤ k ∧ k < hi
  a : Apt (cl.flatMap lsts)
/-- Likewise, of a block that is being made: its lists us, the lists of its phis. -/
structure OwnF (lo hi : Nat) (w : World) (us : List Value) (ps : List PhiM) : Prop where
  q : ∀ x ∈ ps, PhiOk w x
  b : ∀ u ∈ us ++ ps.flatMap pfa, ∀ k ∈ blks u, lo ≤ k ∧ k < hi
  a : Apt (us ++ ps.flatMap pfa)
/-- A program of the call's own. -/
structure OwnP (lo : Nat) (w : World) (v : Value) (bs : List BlkM) : Prop where
  s : Sl w 42 7 v bs.length (blkC bs)
  v : ∀ k ∈ blks v, lo ≤ k
  l : OwnL lo w.heap.size w bs
theorem OwnP.ok {lo : Nat} {w : World} {v : Value} {bs : List BlkM} (h : OwnP lo w v bs) : ProgOk w v bs := ⟨h.s, h.l.q⟩
theorem apt_app {l m : List Value} {n : Nat} (h : Apt l) (h2 : Apt m) (hl : ∀ u ∈ l, ∀ k ∈ blks u, k < n) (hm : ∀ u ∈ m, ∀ k ∈ blks u, n ≤ k) : Apt (l ++ m) :=
  List.pairwise_append.2 ⟨h, h2, fun a ha b hb k hk hk2 => by have := hl a ha k hk; have := hm b hb k hk2; omega⟩
section
variable {lo hi hi' : Nat} {w w' : World} {cl : List BlkM} {us : List Value} {ps : List PhiM}
theorem PhiOk.keptS {S : List Nat} {x : PhiM} (h : PhiOk w x) (t : Tch S w w') (hf : ∀ k ∈ blks x.fv, ¬ k ∈ S) (ha : ∀ k ∈ blks x.av, ¬ k ∈ S) : PhiOk w' x := ⟨h.f.kept t hf, h.a.kept t ha⟩
theorem OwnL.kept {S : List Nat} (h : OwnL lo hi w cl) (t : Tch S w w') (hS : ∀ k ∈ S, k < lo ∨ hi ≤ k) : OwnL lo hi w' cl := by
  have key : ∀ u ∈ cl.flatMap lsts, ∀ k ∈ blks u, ¬ k ∈ S := fun u hu k hk hs => by
    have h1 := h.b u hu k hk
    rcases hS k hs with h2 | h2 <;> omega
  refine ⟨fun B hB => ?_, h.b, h.a⟩
  have kk : ∀ u ∈ lsts B, ∀ k ∈ blks u, ¬ k ∈ S := fun u hu => key u (List.mem_flatMap.2 ⟨B, hB, hu⟩)
  refine ⟨(h.q B hB).p.kept t (kk _ (by simp [lsts])), fun x hx => ((h.q B hB).q x hx).keptS t (kk _ ?_) (kk _ ?_), (h.q B hB).i.kept t (kk _ (by simp [lsts]))⟩
  · simp only [lsts, List.mem_cons]; exact .inr (.inr (List.mem_flatMap.2 ⟨x, hx, by simp [pfa]⟩))
  · simp only [lsts, List.mem_cons]; exact .inr (.inr (List.mem_flatMap.2 ⟨x, hx, by simp [pfa]⟩))
theorem OwnL.mono (h : OwnL lo hi w cl) (hh : hi ≤ hi') : OwnL lo hi' w cl := ⟨h.q, fun u hu k hk => ⟨(h.b u hu k hk).1, by have := (h.b u hu k hk).2; omega⟩, h.a⟩
theorem OwnL.low {lo' : Nat} (h : OwnL lo hi w cl) (hh : lo' ≤ lo) : OwnL lo' hi w cl := ⟨h.q, fun u hu k hk => ⟨by have := (h.b u hu k hk).1; omega, (h.b u hu k hk).2⟩, h.a⟩
theorem OwnL.nil : OwnL lo hi w [] := ⟨by simp, by simp, List.Pairwise.nil⟩
/-- A block is done. -/
theorem OwnL.snoc {B : BlkM} {ph : List PhiM} (h : OwnL lo hi w cl) (f : OwnF hi hi' w [B.pv, B.iv] B.phis) (hp : Sl w 35 3 B.pv B.phis.length (phiC B.phis)) (hI : Sl w 48 7 B.iv B.ins.length (insC B.ins)) (hl : lo ≤ hi) (hh : hi ≤ hi') : OwnL lo hi' w (cl ++ [B]) := by
  have e : (cl ++ [B]).flatMap lsts = cl.flatMap lsts ++ ([B.pv, B.iv] ++ B.phis.flatMap pfa) := by simp [lsts]
  refine ⟨fun X hX => ?_, ?_, ?_⟩
  · rcases List.mem_append.1 hX with h1 | h1
    · exact h.q X h1
    · simp at h1; subst h1; exact ⟨hp, f.q, hI⟩
  · rw [e]
    intro u hu k hk
    rcases List.mem_append.1 hu with h1 | h1
    · have := h.b u h1 k hk; omega
    · have := f.b u h1 k hk; omega
  · rw [e]
    exact apt_app h.a f.a (fun u hu k hk => (h.b u hu k hk).2) (fun u hu k hk => (f.b u hu k hk).1)
theorem OwnF.kept {S : List Nat} (h : OwnF lo hi w us ps) (t : Tch S w w') (hS : ∀ k ∈ S, k < lo ∨ hi ≤ k ∨ ∃ u ∈ us, k ∈ blks u) : OwnF lo hi w' us ps := by
  have key : ∀ u ∈ ps.flatMap pfa, ∀ k ∈ blks u, ¬ k ∈ S := fun u hu k hk hs => by
    have h1 := h.b u (List.mem_append.2 (.inr hu)) k hk
    rcases hS k hs with h2 | h2 | ⟨u2, hu2, h2⟩
    · omega
    · omega
    · exact (List.pairwise_append.1 h.a).2.2 u2 hu2 u hu k h2 hk
  refine ⟨fun x hx => (h.q x hx).keptS t (key _ (List.mem_flatMap.2 ⟨x, hx, by simp [pfa]⟩)) (key _ (List.mem_flatMap.2 ⟨x, hx, by simp [pfa]⟩)), h.b, h.a⟩
theorem OwnF.mono (h : OwnF lo hi w us ps) (hh : hi ≤ hi') : OwnF lo hi' w us ps := ⟨h.q, fun u hu k hk => ⟨(h.b u hu k hk).1, by have := (h.b u hu k hk).2; omega⟩, h.a⟩
theorem OwnF.snoc {x : PhiM} {h1 : Nat} (h : OwnF lo hi w us ps) (hx : PhiOk w x) (hf : ∀ k ∈ blks x.fv, hi ≤ k ∧ k < h1) (ha : ∀ k ∈ blks x.av, h1 ≤ k ∧ k < hi') (hl : lo ≤ hi) (g1 : hi ≤ h1) (g2 : h1 ≤ hi') : OwnF lo hi' w us (ps ++ [x]) := by
  have e : us ++ (ps ++ [x]).flatMap pfa = (us ++ ps.flatMap pfa) ++ [x.fv, x.av] := by simp [pfa]
  refine ⟨fun y hy => ?_, ?_, ?_⟩
  · rcases List.mem_append.1 hy with h1 | h1
    · exact h.q y h1
    · simp at h1; subst h1; exact hx
  · rw [e]
    intro u hu k hk
    rcases List.mem_append.1 hu with h2 | h2
    · have := h.b u h2 k hk; omega
    · simp at h2
      rcases h2 with rfl | rfl
      · have := hf k hk; omega
      · have := ha k hk; omega
  · rw [e]
    refine apt_app (n := hi) h.a ?_ (fun u hu k hk => (h.b u hu k hk).2) (fun u hu k hk => ?_)
    · refine List.pairwise_cons.2 ⟨fun b hb k hk hk2 => ?_, List.pairwise_singleton _ _⟩
      simp at hb; subst hb
      have := hf k hk
      have := ha k hk2
      omega
    · simp at hu
      rcases hu with rfl | rfl
      · exact (hf k hk).1
      · have := ha k hk; omega
end
/-- A cell of a phi in the middle is set. -/
theorem phi_mid {w : World} {c b off m n : Nat} {cl rest : List PhiM} {B B' : PhiM} (hm : cl.length = m) (h : Sl w 35 3 (.slice (some ⟨b, off, none⟩) n c) n (phiC (cl ++ B :: rest))) (j : Nat) (hj : j < 3) (u : Value) (hB : B.cells.set j u = B'.cells) :
    Sl (w.setCell ⟨b, off + m * 3 + j, none⟩ u) 35 3 (.slice (some ⟨b, off, none⟩) n c) n (phiC (cl ++ B' :: rest)) := by
  have hl : (phiC cl).length = m * 3 := by unfold phiC; rw [flatMap_len (f := PhiM.cells) (sz := 3) (fun _ => rfl), hm]
  have hB7 : B.cells.length = 3 := rfl
  have e1 : ∀ X : PhiM, phiC (cl ++ X :: rest) = phiC cl ++ (X.cells ++ phiC rest) := fun X => by unfold phiC; simp
  have h2 := sl_setM h (m * 3 + j) (by rw [e1, List.length_append, List.length_append, hl, hB7]; omega) u
  rw [e1, List.set_append_right _ _ (by rw [hl]; omega), hl, show m * 3 + j - m * 3 = j by omega, List.set_append_left _ _ (by rw [hB7]; exact hj), hB, ← e1, ← Nat.add_assoc] at h2
  exact h2
end Go.Proofs.YtjkokokddijpkaaDoor
