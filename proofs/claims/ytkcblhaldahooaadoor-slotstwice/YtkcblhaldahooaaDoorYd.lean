/- Joined: ClL, ClP. -/
import Derived.Test.YtkcblhaldahooaaDoorSk
import Derived.Test.YtkcblhaldahooaaDoorYc
import Derived.Test.YtkcblhaldahooaaDoorLc
import Derived.Deep.CutRange


/- Clones: lists that lie apart. -/
set_option linter.unusedSimpArgs false
set_option linter.unusedVariables false
namespace Go.Proofs.YtkcblhaldahooaaDoor
open Go.RowKit Go.Sort Go.Maps

theorem info_phi : (Tryd.prog.info? 73).map (fun i => (i.zero, i.size, i.bytes)) = some (some (.agg #[.int .i64 0, .slice none 0 0, .slice none 0 0]), 3, 56) := by kernel_rfl
theorem phi_one {w : World} {l : List PhiM} (h : ∀ x ∈ l, PhiOk w x) : ∀ u ∈ phiC l, u.oneCell' = true := fun u hu => by
  unfold phiC at hu
  obtain ⟨x, hx, hu⟩ := List.mem_flatMap.1 hu
  obtain ⟨pa, pc, hp⟩ := (h x hx).f.shape
  obtain ⟨ia, ic, hi⟩ := (h x hx).a.shape
  simp [PhiM.cells, hp, hi] at hu
  rcases hu with rfl | rfl | rfl <;> rfl
theorem ivals_one (l : List Int) : ∀ u ∈ ivals l, u.oneCell' = true := fun u hu => by
  unfold ivals at hu
  obtain ⟨x, _, rfl⟩ := List.mem_map.1 hu
  rfl
set_option maxRecDepth 100000 in
set_option maxHeartbeats 1000000 in
theorem clone_intsM (v : Value) (l : List Int) (hl : l.length ≤ 1000000) (w : World) (h : Sl w 3 1 v l.length (ivals l)) :
    Calls Tryd.prog 41 #[v] w fun e w' => ∃ v', e = .returned v' ∧ Sl w' 3 1 v' l.length (ivals l) ∧ Gr w w' ∧ ∀ x ∈ blks v', w.heap.size ≤ x := by
  have HS := hid h
  have HO := hid (ivals_one l)
  have qT : ∀ (w : World) (a : Option Addr) (n c : Nat), (binOp .eql 71 (.slice a n c) (.slice none 0 0)).run Tryd.prog w = .ok (.bool a.isNone) w := fun w a n c => Lib.run_eql_slice_nil w _ _ a n c 0 0 Tryd.underlying71
  obtain ⟨h0, ⟨rfl, hn⟩ | ⟨b, off, cap, cur, rfl, g1, g2, g3, g4, g5⟩⟩ := h
  · go_enter Tryd.func41, Tryd.ntmps41
    go_wp2
    go_ret
    exact ⟨_, rfl, HS.out, Gr.refl _, by simp [blks]⟩
  · have HC := hid (fun (W : World) (g : Gr w W) => ((HS.out).gr g).cell.2.1)
    have HL := hid h0
    have lb := lt_of_obj g1
    obtain ⟨k, hk⟩ : ∃ k, l.length = k := ⟨_, rfl⟩
    rw [hk] at hl HL HS ⊢
    clear g1 g2 g3 g4 g5 h0 hk
    generalize ivals l = cs at HC HL HS HO ⊢
    go_enter Tryd.func41, Tryd.ntmps41
    go_wp2_with (first | (at_builtin; refine wpList_append_sl _ rfl _ _ 71 rfl Tryd.underlying71 info_int rfl (by decide) (.slice (some ⟨w.heap.size, 0, none⟩) 0 0) rfl (sl_new w _ rfl 3 1 0 [] rfl (by simp [maxLen])) ⟨b, off, none⟩ k cap rfl cs HL.out (fun j u hj => by rw [Addr.add_lit]; exact HC.out _ ((Gr.refl w).alloc _) j u hj) HO.out (by omega) ?_; intro v' w' hs' hq))
    obtain ⟨gq, hB⟩ := hq w ((Gr.refl w).alloc _) (by simp [blks])
    rw [Nat.zero_add, List.nil_append] at hs'
    obtain ⟨va', vc', rfl⟩ := hs'.shape
    have HS2 := hid hs'
    have HB := hid hB
    have HG := hid gq
    clear hs' hB gq hq
    go_wp2
    go_ret
    exact ⟨_, rfl, HS2.out, HG.out, HB.out⟩
set_option maxRecDepth 100000 in
set_option maxHeartbeats 1000000 in
theorem clone_phis (v : Value) (l : List PhiM) (hl : l.length ≤ 1000000) (w : World) (h : Sl w 73 3 v l.length (phiC l)) (hb : ∀ B ∈ l, PhiOk w B) :
    Calls Tryd.prog 39 #[v] w fun e w' => ∃ v', e = .returned v' ∧ Sl w' 73 3 v' l.length (phiC l) ∧ Gr w w' ∧ ∀ x ∈ blks v', w.heap.size ≤ x := by
  have HS := hid h
  have HO := hid (phi_one hb)
  have qT : ∀ (w : World) (a : Option Addr) (n c : Nat), (binOp .eql 41 (.slice a n c) (.slice none 0 0)).run Tryd.prog w = .ok (.bool a.isNone) w := fun w a n c => Lib.run_eql_slice_nil w _ _ a n c 0 0 Tryd.underlying41
  obtain ⟨h0, ⟨rfl, hn⟩ | ⟨b, off, cap, cur, rfl, g1, g2, g3, g4, g5⟩⟩ := h
  · go_enter Tryd.func39, Tryd.ntmps39
    go_wp2
    go_ret
    exact ⟨_, rfl, HS.out, Gr.refl _, by simp [blks]⟩
  · have HC := hid (fun (W : World) (g : Gr w W) => ((HS.out).gr g).cell.2.1)
    have HL := hid h0
    have lb := lt_of_obj g1
    obtain ⟨k, hk⟩ : ∃ k, l.length = k := ⟨_, rfl⟩
    rw [hk] at hl HL HS ⊢
    clear g1 g2 g3 g4 g5 h0 hk
    generalize phiC l = cs at HC HL HS HO ⊢
    go_enter Tryd.func39, Tryd.ntmps39
    go_wp2_with (first | (at_builtin; refine wpList_append_sl _ rfl _ _ 41 rfl Tryd.underlying41 info_phi rfl (by decide) (.slice (some ⟨w.heap.size, 0, none⟩) 0 0) rfl (sl_new w _ rfl 73 3 0 [] rfl (by simp [maxLen])) ⟨b, off, none⟩ k cap rfl cs HL.out (fun j u hj => by rw [Addr.add_lit]; exact HC.out _ ((Gr.refl w).alloc _) j u hj) HO.out (by omega) ?_; intro v' w' hs' hq))
    obtain ⟨gq, hB⟩ := hq w ((Gr.refl w).alloc _) (by simp [blks])
    rw [Nat.zero_add, List.nil_append] at hs'
    obtain ⟨va', vc', rfl⟩ := hs'.shape
    have HS2 := hid hs'
    have HB := hid hB
    have HG := hid gq
    clear hs' hB gq hq
    go_wp2
    go_ret
    exact ⟨_, rfl, HS2.out, HG.out, HB.out⟩
set_option maxRecDepth 100000 in
set_option maxHeartbeats 1000000 in
theorem clone_insM (v : Value) (l : List InsM) (hl : l.length ≤ 1000000) (w : World) (h : Sl w 36 7 v l.length (insC l)) :
    Calls Tryd.prog 40 #[v] w fun e w' => ∃ v', e = .returned v' ∧ Sl w' 36 7 v' l.length (insC l) ∧ Gr w w' ∧ ∀ x ∈ blks v', w.heap.size ≤ x := by
  have HS := hid h
  have HO := hid (ins_one l)
  have qT : ∀ (w : World) (a : Option Addr) (n c : Nat), (binOp .eql 37 (.slice a n c) (.slice none 0 0)).run Tryd.prog w = .ok (.bool a.isNone) w := fun w a n c => Lib.run_eql_slice_nil w _ _ a n c 0 0 Tryd.underlying37
  obtain ⟨h0, ⟨rfl, hn⟩ | ⟨b, off, cap, cur, rfl, g1, g2, g3, g4, g5⟩⟩ := h
  · go_enter Tryd.func40, Tryd.ntmps40
    go_wp2
    go_ret
    exact ⟨_, rfl, HS.out, Gr.refl _, by simp [blks]⟩
  · have HC := hid (fun (W : World) (g : Gr w W) => ((HS.out).gr g).cell.2.1)
    have HL := hid h0
    have lb := lt_of_obj g1
    obtain ⟨k, hk⟩ : ∃ k, l.length = k := ⟨_, rfl⟩
    rw [hk] at hl HL HS ⊢
    clear g1 g2 g3 g4 g5 h0 hk
    generalize insC l = cs at HC HL HS HO ⊢
    go_enter Tryd.func40, Tryd.ntmps40
    go_wp2_with (first | (at_builtin; refine wpList_append_sl _ rfl _ _ 37 rfl Tryd.underlying37 info_ins rfl (by decide) (.slice (some ⟨w.heap.size, 0, none⟩) 0 0) rfl (sl_new w _ rfl 36 7 0 [] rfl (by simp [maxLen])) ⟨b, off, none⟩ k cap rfl cs HL.out (fun j u hj => by rw [Addr.add_lit]; exact HC.out _ ((Gr.refl w).alloc _) j u hj) HO.out (by omega) ?_; intro v' w' hs' hq))
    obtain ⟨gq, hB⟩ := hq w ((Gr.refl w).alloc _) (by simp [blks])
    rw [Nat.zero_add, List.nil_append] at hs'
    obtain ⟨va', vc', rfl⟩ := hs'.shape
    have HS2 := hid hs'
    have HB := hid hB
    have HG := hid gq
    clear hs' hB gq hq
    go_wp2
    go_ret
    exact ⟨_, rfl, HS2.out, HG.out, HB.out⟩
set_option maxRecDepth 100000 in
set_option maxHeartbeats 1000000 in
theorem clone_blksM (v : Value) (l : List BlkM) (hl : l.length ≤ 1000000) (w : World) (h : Sl w 43 7 v l.length (blkC l)) (hb : ∀ B ∈ l, BlkOk w B) :
    Calls Tryd.prog 38 #[v] w fun e w' => ∃ v', e = .returned v' ∧ Sl w' 43 7 v' l.length (blkC l) ∧ Gr w w' ∧ ∀ x ∈ blks v', w.heap.size ≤ x := by
  have HS := hid h
  have HO := hid (blk_one hb)
  have qT : ∀ (w : World) (a : Option Addr) (n c : Nat), (binOp .eql 26 (.slice a n c) (.slice none 0 0)).run Tryd.prog w = .ok (.bool a.isNone) w := fun w a n c => Lib.run_eql_slice_nil w _ _ a n c 0 0 Tryd.underlying26
  obtain ⟨h0, ⟨rfl, hn⟩ | ⟨b, off, cap, cur, rfl, g1, g2, g3, g4, g5⟩⟩ := h
  · go_enter Tryd.func38, Tryd.ntmps38
    go_wp2
    go_ret
    exact ⟨_, rfl, HS.out, Gr.refl _, by simp [blks]⟩
  · have HC := hid (fun (W : World) (g : Gr w W) => ((HS.out).gr g).cell.2.1)
    have HL := hid h0
    have lb := lt_of_obj g1
    obtain ⟨k, hk⟩ : ∃ k, l.length = k := ⟨_, rfl⟩
    rw [hk] at hl HL HS ⊢
    clear g1 g2 g3 g4 g5 h0 hk
    generalize blkC l = cs at HC HL HS HO ⊢
    go_enter Tryd.func38, Tryd.ntmps38
    go_wp2_with (first | (at_builtin; refine wpList_append_sl _ rfl _ _ 26 rfl Tryd.underlying26 info_blk rfl (by decide) (.slice (some ⟨w.heap.size, 0, none⟩) 0 0) rfl (sl_new w _ rfl 43 7 0 [] rfl (by simp [maxLen])) ⟨b, off, none⟩ k cap rfl cs HL.out (fun j u hj => by rw [Addr.add_lit]; exact HC.out _ ((Gr.refl w).alloc _) j u hj) HO.out (by omega) ?_; intro v' w' hs' hq))
    obtain ⟨gq, hB⟩ := hq w ((Gr.refl w).alloc _) (by simp [blks])
    rw [Nat.zero_add, List.nil_append] at hs'
    obtain ⟨va', vc', rfl⟩ := hs'.shape
    have HS2 := hid hs'
    have HB := hid hB
    have HG := hid gq
    clear hs' hB gq hq
    go_wp2
    go_ret
    exact ⟨_, rfl, HS2.out, HG.out, HB.out⟩
/-- No two of these lists share a block. -/
def Apt (l : List Value) : Prop := l.Pairwise fun a b => ∀ k ∈ blks a, ¬ k ∈ blks b
def pfa (x : PhiM) : List Value := [x.fv, x.av]
/-- The lists of a block. -/
def lsts (B : BlkM) : List Value := B.pv :: B.iv :: B.phis.flatMap pfa
/-- Blocks whose lists lie apart, from lo on, ahead of hi. -/
structure OwnL (lo hi : Nat) (w : World) (cl : List BlkM) : Prop where
  q : ∀ B ∈ cl, BlkOk w B
  b : ∀ u ∈ cl.flatMap lsts, ∀ k ∈ blks u, lo ≤ k ∧ k < hi
  a : Apt (cl.flatMap lsts)
/-- Likewise, of a block that is being made: its lists us, the lists of its phis. -/
structure OwnF (lo hi : Nat) (w : World) (us : List Value) (ps : List PhiM) : Prop where
  q : ∀ x ∈ ps, PhiOk w x
  b : ∀ u ∈ us ++ ps.flatMap pfa, ∀ k ∈ blks u, lo ≤ k ∧ k < hi
  a : Apt (us ++ ps.flatMap pfa)
/-- A program of the call's own. -/
structure OwnP (lo : Nat) (w : World) (v : Value) (bs : List BlkM) : Prop where
  s : Sl w 43 7 v bs.length (blkC bs)
  v : ∀ k ∈ blks v, lo ≤ k
  l : OwnL lo w.heap.size w bs
theorem OwnP.ok {lo : Nat} {w : World} {v : Value} {bs : List BlkM} (h : OwnP lo w v bs) : ProgOk w v bs := ⟨h.s, h.l.q⟩
theorem apt_app {l m : List Value} {n : Nat} (h : Apt l) (h2 : Apt m) (hl : ∀ u ∈ l, ∀ k ∈ blks u, k < n) (hm : ∀ u ∈ m, ∀ k ∈ blks u, n ≤ k) : Apt (l ++ m) :=
  List.pairwise_append.2 ⟨h, h2, fun a ha b hb k hk hk2 => by have := hl a ha k hk; have := hm b hb k hk2; omega⟩
section
variable {lo hi hi' : Nat} {w w' : World} {cl : List BlkM} {us : List Value} {ps : List PhiM}
theorem PhiOk.keptS {S : List Nat} {x : PhiM} (h : PhiOk w x) (t : Tch S w w') (hf : ∀ k ∈ blks x.fv, ¬ k ∈ S) (ha : ∀ k ∈ blks x.av, ¬ k ∈ S) : PhiOk w' x := ⟨h.f.kept t hf, h.a.kept t ha⟩
theorem OwnL.kept {S : List Nat} (h : OwnL lo hi w cl) (t : Tch S w w') (hS : ∀ k ∈ S, k < lo ∨ hi ≤ k) : OwnL lo hi w' cl := by
  have key : ∀ u ∈ cl.flatMap lsts, ∀ k ∈ blks u, ¬ k ∈ S := fun u hu k hk hs => by
    have h1 := h.b u hu k hk
    rcases hS k hs with h2 | h2 <;> omega
  refine ⟨fun B hB => ?_, h.b, h.a⟩
  have kk : ∀ u ∈ lsts B, ∀ k ∈ blks u, ¬ k ∈ S := fun u hu => key u (List.mem_flatMap.2 ⟨B, hB, hu⟩)
  refine ⟨(h.q B hB).p.kept t (kk _ (by simp [lsts])), fun x hx => ((h.q B hB).q x hx).keptS t (kk _ ?_) (kk _ ?_), (h.q B hB).i.kept t (kk _ (by simp [lsts]))⟩
  · simp only [lsts, List.mem_cons]; exact .inr (.inr (List.mem_flatMap.2 ⟨x, hx, by simp [pfa]⟩))
  · simp only [lsts, List.mem_cons]; exact .inr (.inr (List.mem_flatMap.2 ⟨x, hx, by simp [pfa]⟩))
theorem OwnL.mono (h : OwnL lo hi w cl) (hh : hi ≤ hi') : OwnL lo hi' w cl := ⟨h.q, fun u hu k hk => ⟨(h.b u hu k hk).1, by have := (h.b u hu k hk).2; omega⟩, h.a⟩
theorem OwnL.low {lo' : Nat} (h : OwnL lo hi w cl) (hh : lo' ≤ lo) : OwnL lo' hi w cl := ⟨h.q, fun u hu k hk => ⟨by have := (h.b u hu k hk).1; omega, (h.b u hu k hk).2⟩, h.a⟩
theorem OwnL.nil : OwnL lo hi w [] := ⟨by simp, by simp, List.Pairwise.nil⟩
/-- A block is done. -/
theorem OwnL.snoc {B : BlkM} {ph : List PhiM} (h : OwnL lo hi w cl) (f : OwnF hi hi' w [B.pv, B.iv] B.phis) (hp : Sl w 73 3 B.pv B.phis.length (phiC B.phis)) (hI : Sl w 36 7 B.iv B.ins.length (insC B.ins)) (hl : lo ≤ hi) (hh : hi ≤ hi') : OwnL lo hi' w (cl ++ [B]) := by
  have e : (cl ++ [B]).flatMap lsts = cl.flatMap lsts ++ ([B.pv, B.iv] ++ B.phis.flatMap pfa) := by simp [lsts]
  refine ⟨fun X hX => ?_, ?_, ?_⟩
  · rcases List.mem_append.1 hX with h1 | h1
    · exact h.q X h1
    · simp at h1; subst h1; exact ⟨hp, f.q, hI⟩
  · rw [e]
    intro u hu k hk
    rcases List.mem_append.1 hu with h1 | h1
    · have := h.b u h1 k hk; omega
    · have := f.b u h1 k hk; omega
  · rw [e]
    exact apt_app h.a f.a (fun u hu k hk => (h.b u hu k hk).2) (fun u hu k hk => (f.b u hu k hk).1)
theorem OwnF.kept {S : List Nat} (h : OwnF lo hi w us ps) (t : Tch S w w') (hS : ∀ k ∈ S, k < lo ∨ hi ≤ k ∨ ∃ u ∈ us, k ∈ blks u) : OwnF lo hi w' us ps := by
  have key : ∀ u ∈ ps.flatMap pfa, ∀ k ∈ blks u, ¬ k ∈ S := fun u hu k hk hs => by
    have h1 := h.b u (List.mem_append.2 (.inr hu)) k hk
    rcases hS k hs with h2 | h2 | ⟨u2, hu2, h2⟩
    · omega
    · omega
    · exact (List.pairwise_append.1 h.a).2.2 u2 hu2 u hu k h2 hk
  refine ⟨fun x hx => (h.q x hx).keptS t (key _ (List.mem_flatMap.2 ⟨x, hx, by simp [pfa]⟩)) (key _ (List.mem_flatMap.2 ⟨x, hx, by simp [pfa]⟩)), h.b, h.a⟩
theorem OwnF.mono (h : OwnF lo hi w us ps) (hh : hi ≤ hi') : OwnF lo hi' w us ps := ⟨h.q, fun u hu k hk => ⟨(h.b u hu k hk).1, by have := (h.b u hu k hk).2; omega⟩, h.a⟩
theorem OwnF.snoc {x : PhiM} {h1 : Nat} (h : OwnF lo hi w us ps) (hx : PhiOk w x) (hf : ∀ k ∈ blks x.fv, hi ≤ k ∧ k < h1) (ha : ∀ k ∈ blks x.av, h1 ≤ k ∧ k < hi') (hl : lo ≤ hi) (g1 : hi ≤ h1) (g2 : h1 ≤ hi') : OwnF lo hi' w us (ps ++ [x]) := by
  have e : us ++ (ps ++ [x]).flatMap pfa = (us ++ ps.flatMap pfa) ++ [x.fv, x.av] := by simp [pfa]
  refine ⟨fun y hy => ?_, ?_, ?_⟩
  · rcases List.mem_append.1 hy with h1 | h1
    · exact h.q y h1
    · simp at h1; subst h1; exact hx
  · rw [e]
    intro u hu k hk
    rcases List.mem_append.1 hu with h2 | h2
    · have := h.b u h2 k hk; omega
    · simp at h2
      rcases h2 with rfl | rfl
      · have := hf k hk; omega
      · have := ha k hk; omega
  · rw [e]
    refine apt_app (n := hi) h.a ?_ (fun u hu k hk => (h.b u hu k hk).2) (fun u hu k hk => ?_)
    · refine List.pairwise_cons.2 ⟨fun b hb k hk hk2 => ?_, List.pairwise_singleton _ _⟩
      simp at hb; subst hb
      have := hf k hk
      have := ha k hk2
      omega
    · simp at hu
      rcases hu with rfl | rfl
      · exact (hf k hk).1
      · have := ha k hk; omega
end
/-- A cell of a phi in the middle is set. -/
theorem phi_mid {w : World} {c b off m n : Nat} {cl rest : List PhiM} {B B' : PhiM} (hm : cl.length = m) (h : Sl w 73 3 (.slice (some ⟨b, off, none⟩) n c) n (phiC (cl ++ B :: rest))) (j : Nat) (hj : j < 3) (u : Value) (hB : B.cells.set j u = B'.cells) :
    Sl (w.setCell ⟨b, off + m * 3 + j, none⟩ u) 73 3 (.slice (some ⟨b, off, none⟩) n c) n (phiC (cl ++ B' :: rest)) := by
  have hl : (phiC cl).length = m * 3 := by unfold phiC; rw [flatMap_len (f := PhiM.cells) (sz := 3) (fun _ => rfl), hm]
  have hB7 : B.cells.length = 3 := rfl
  have e1 : ∀ X : PhiM, phiC (cl ++ X :: rest) = phiC cl ++ (X.cells ++ phiC rest) := fun X => by unfold phiC; simp
  have h2 := sl_setM h (m * 3 + j) (by rw [e1, List.length_append, List.length_append, hl, hB7]; omega) u
  rw [e1, List.set_append_right _ _ (by rw [hl]; omega), hl, show m * 3 + j - m * 3 = j by omega, List.set_append_left _ _ (by rw [hB7]; exact hj), hB, ← e1, ← Nat.add_assoc] at h2
  exact h2
end Go.Proofs.YtkcblhaldahooaaDoor


/- Program.Clone of any program, phis too. -/
set_option linter.unusedSimpArgs false
set_option linter.unusedVariables false
namespace Go.Proofs.YtkcblhaldahooaaDoor
open Go.RowKit Go.Sort Go.Maps

/-- Blocks cl are cloned, B2 is being cloned: its phis ps, then mid, which still are the old ones. -/
structure CJ (W1 : World) (lo hi0 hi : Nat) (w : World) (b off n c qb : Nat) (cl : List BlkM) (B2 : BlkM) (rest : List BlkM) (ps mid : List PhiM) : Prop where
  g : Gr W1 w
  s : Sl w 43 7 (.slice (some ⟨b, off, none⟩) n c) n (blkC (cl ++ B2 :: rest))
  l : OwnL lo hi0 w cl
  f : OwnF hi0 hi w [B2.pv, B2.iv] ps
  sp : Sl w 73 3 B2.pv (ps ++ mid).length (phiC (ps ++ mid))
  si : Sl w 36 7 B2.iv B2.ins.length (insC B2.ins)
  c : w.cell? ⟨qb, 0, none⟩ = some (.slice (some ⟨b, off, none⟩) n c)
  low : b < lo ∧ qb < lo ∧ lo ≤ hi0 ∧ hi0 ≤ hi ∧ hi ≤ w.heap.size ∧ W1.heap.size ≤ b ∧ ¬ b = qb
section
variable {W1 w w' : World} {lo hi0 hi : Nat} {b off n c qb : Nat} {cl : List BlkM} {B2 : BlkM} {rest : List BlkM} {ps mid : List PhiM}
theorem CJ.gr (h : CJ W1 lo hi0 hi w b off n c qb cl B2 rest ps mid) (g : Gr w w') : CJ W1 lo hi0 hi w' b off n c qb cl B2 rest ps mid :=
  ⟨h.g.trans g, h.s.gr g, h.l.kept g.tch (by simp), h.f.kept g.tch (by simp), h.sp.gr g, h.si.gr g, g.val h.c, ⟨h.low.1, h.low.2.1, h.low.2.2.1, h.low.2.2.2.1, Nat.le_trans h.low.2.2.2.2.1 g.size, h.low.2.2.2.2.2⟩⟩
theorem CJ.put {pb po np cp jj : Nat} {x x' : PhiM} {r : List PhiM} {u : Value} (h : CJ W1 lo hi0 hi w b off n c qb cl B2 rest ps (x :: r)) (hpv : B2.pv = .slice (some ⟨pb, po, none⟩) np cp) (hnp : (ps ++ x :: r).length = np) (hj : jj < 3) (hx : x.cells.set jj u = x'.cells) :
    CJ W1 lo hi0 hi (w.setCell ⟨pb, po + ps.length * 3 + jj, none⟩ u) b off n c qb cl B2 rest ps (x' :: r) := by
  have hb : hi0 ≤ pb ∧ pb < hi := h.f.b B2.pv (by simp) pb (by rw [hpv]; simp [blks])
  obtain ⟨l1, l2, l3, l4, l5, l6, l7⟩ := h.low
  have t : Tch [pb] w (w.setCell ⟨pb, po + ps.length * 3 + jj, none⟩ u) := (Tch.refl [pb] w).setCell (.inl (by simp)) _
  have hsp := h.sp
  rw [hnp, hpv] at hsp
  have hs2 := phi_mid (B' := x') rfl hsp jj hj u hx
  have hap : ∀ k ∈ blks B2.iv, ¬ k = pb := fun k hk e => by
    have := (List.pairwise_cons.1 h.f.a).1 B2.iv (by simp) pb (by rw [hpv]; simp [blks])
    subst e; exact this hk
  refine ⟨h.g.setCell (by simp; omega) _, h.s.kept t (by simp [blks]; omega), h.l.kept t (fun k hk => .inr (by simp at hk; omega)), h.f.kept t (fun k hk => .inr (.inr ⟨B2.pv, by simp, by simp at hk; rw [hpv, hk]; simp [blks]⟩)), ?_, h.si.kept t (fun k hk h2 => hap k hk (by simpa using h2)), tch_val t h.c (by simp; omega), ⟨l1, l2, l3, l4, by simp [World.setCell]; exact l5, l6, l7⟩⟩
  have e : (ps ++ x' :: r).length = np := by rw [← hnp]; simp
  rw [e, hpv]
  exact hs2
theorem CJ.next {x : PhiM} {r : List PhiM} {h1 : Nat} (h : CJ W1 lo hi0 hi w b off n c qb cl B2 rest ps (x :: r)) (hx : PhiOk w x) (hf : ∀ k ∈ blks x.fv, hi ≤ k ∧ k < h1) (ha : ∀ k ∈ blks x.av, h1 ≤ k ∧ k < w.heap.size) (g1 : hi ≤ h1) (g2 : h1 ≤ w.heap.size) : CJ W1 lo hi0 w.heap.size w b off n c qb cl B2 rest (ps ++ [x]) r := by
  obtain ⟨l1, l2, l3, l4, l5, l6, l7⟩ := h.low
  have e : ps ++ [x] ++ r = ps ++ x :: r := by simp
  exact ⟨h.g, h.s, h.l, h.f.snoc hx hf ha l4 g1 g2, by rw [e]; exact h.sp, h.si, h.c, ⟨l1, l2, l3, by omega, Nat.le_refl _, l6, l7⟩⟩
end
/-- Blocks cl are cloned. -/
structure CP (W1 : World) (lo : Nat) (w : World) (b off n c qb : Nat) (bs cl : List BlkM) (i : Nat) : Prop where
  g : Gr W1 w
  m : cl.length = i
  d : cl.map BlkM.pd = (bs.take i).map BlkM.pd
  s : Sl w 43 7 (.slice (some ⟨b, off, none⟩) n c) n (blkC (cl ++ bs.drop i))
  l : OwnL lo w.heap.size w cl
  c : w.cell? ⟨qb, 0, none⟩ = some (.slice (some ⟨b, off, none⟩) n c)
  low : b < lo ∧ qb < lo ∧ lo ≤ w.heap.size ∧ W1.heap.size ≤ b ∧ ¬ b = qb
theorem CP.step {W1 w : World} {lo hi0 hi b off n c qb i : Nat} {bs cl : List BlkM} {B : BlkM} {pv iv : Value} {ps : List PhiM} (hn : cl.length = i) (hd : cl.map BlkM.pd = (bs.take i).map BlkM.pd) (hx : bs[i]? = some B) (h : CJ W1 lo hi0 hi w b off n c qb cl { B with pv := pv, iv := iv } (bs.drop (i + 1)) ps []) (hps : ps.map PhiM.pd = B.phis.map PhiM.pd) :
    CP W1 lo w b off n c qb bs (cl ++ [{ B with pv := pv, iv := iv, phis := ps }]) (i + 1) := by
  obtain ⟨l1, l2, l3, l4, l5, l6, l7⟩ := h.low
  obtain ⟨hi, hB⟩ := List.getElem?_eq_some_iff.1 hx
  have hsp := h.sp
  rw [List.append_nil] at hsp
  refine ⟨h.g, by simp [hn], ?_, ?_, ((h.l.snoc (B := { B with pv := pv, iv := iv, phis := ps }) (ph := []) h.f hsp h.si l3 l4).mono l5), h.c, ⟨l1, l2, by omega, l6, l7⟩⟩
  · rw [List.map_append, hd, List.take_succ_eq_append_getElem hi, List.map_append, hB]
    simp [BlkM.pd, hps]
  · have e : blkC (cl ++ [{ B with pv := pv, iv := iv, phis := ps }] ++ bs.drop (i + 1)) = blkC (cl ++ { B with pv := pv, iv := iv } :: bs.drop (i + 1)) := by simp [blkC, BlkM.cells]
    rw [e]; exact h.s
set_option maxRecDepth 100000 in
set_option maxHeartbeats 8000000 in
/-- **Program.Clone**, of any program. -/
theorem cloneP_any (v : Value) (bs : List BlkM) (h1 : 1 ≤ bs.length) (h2 : bs.length ≤ 1000000) (w : World) (h : ProgOk w v bs) (hz : ∀ B ∈ bs, B.ins.length ≤ 1000000 ∧ B.phis.length ≤ 1000000 ∧ BlkSm B) :
    Calls Tryd.prog 18 #[.agg #[v]] w fun e w' => ∃ v' cl, e = .returned (.agg #[v']) ∧ OwnP w.heap.size w' v' cl ∧ cl.map BlkM.pd = bs.map BlkM.pd ∧ Gr w w' := by
  have hmo : Tryd.prog.follows .mixedOrders = true := by kernel_rfl
  have HOK := hid h
  have HZ := hid hz
  obtain ⟨va, vc, hv⟩ := h.b.shape
  have HCB := hid (fun (W : World) (g : Gr w W) => clone_blksM v bs h2 W (h.b.gr g) (fun B hB => (h.q B hB).gr g))
  rw [hv] at HCB ⊢
  clear h hz hv
  obtain ⟨k, hk⟩ : ∃ k, bs.length = k := ⟨_, rfl⟩
  rw [hk] at h1 h2 HCB ⊢
  have HKL := hid hk
  clear hk
  have HCI := hid (fun (B : BlkM) (hB : B ∈ bs) (W : World) (g : Gr w W) => clone_insM B.iv B.ins (HZ.out B hB).1 W (((HOK.out.q B hB).i).gr g))
  have HCP := hid (fun (B : BlkM) (hB : B ∈ bs) (W : World) (g : Gr w W) => clone_phis B.pv B.phis (HZ.out B hB).2.1 W (((HOK.out.q B hB).p).gr g) (fun x hx => ((HOK.out.q B hB).q x hx).gr g))
  go_enter Tryd.func18, Tryd.ntmps18
  go_wp2_with (fail)
  have GW := hid (((Gr.refl w).alloc (.cells #[.slice va k vc] 28)).alloc (.cells #[.slice none 0 0] 28))
  have o1 := heap_alloc_new (w.alloc (.cells #[.slice va k vc] 28)) (.cells #[.slice none 0 0] 28)
  have hsz : ((w.alloc (.cells #[.slice va k vc] 28)).alloc (.cells #[.slice none 0 0] 28)).heap.size = w.heap.size + 2 := by simp
  simp only [World.size_alloc] at o1
  generalize (w.alloc (.cells #[.slice va k vc] 28)).alloc (.cells #[.slice none 0 0] 28) = W1 at GW o1 hsz ⊢
  have O1 := hid o1
  clear o1
  refine (HCB.out _ GW.out).mono ?_
  rintro e2 w2 ⟨v', rfl, s2, g2, f2⟩
  dsimp only
  obtain ⟨b, off, c, hv'⟩ := s2.ptr (by omega)
  subst hv'
  have hb2 := f2 b (by simp [blks])
  have hbl := s2.lt b (by simp [blks])
  have ci0 : CP W1 (w2.heap.size + 1) (w2.alloc (.cells #[.slice (some ⟨b, off, none⟩) k c] 28)) b off k c w2.heap.size bs [] 0 :=
    ⟨g2.alloc _, rfl, rfl, by have := s2.gr ((Gr.refl w2).alloc (.cells #[.slice (some ⟨b, off, none⟩) k c] 28)); simpa using this, OwnL.nil, (Gr.refl _).boxed 0 rfl, ⟨by omega, by omega, by simp, hb2, by omega⟩⟩
  have CI0 := hid ci0
  clear s2 f2 HCB g2 ci0
  go_wp2_with (fail)
  generalize w2.alloc (.cells #[.slice (some ⟨b, off, none⟩) k c] 28) = W3 at CI0 ⊢
  generalize w2.heap.size = qb at CI0 hbl ⊢
  go_loopw [14] (fun vi wr => ∃ i : Nat, vi = .int .i64 i ∧ i ≤ k ∧ Hid (∃ cl, CP W1 (qb + 1) wr b off k c qb bs cl i)) (fun vi _ => k - (intOf vi).toNat)
  case atStart => exact ⟨0, rfl, Nat.zero_le _, ⟨[], CI0.out⟩⟩
  case round =>
    obtain ⟨i, rfl, hi, ⟨cl, ci⟩⟩ := hrel
    have CI := hid ci
    have cq := ci.c
    have lq := cell_lt cq
    simp only at lq
    by_cases hlt : i < k
    · obtain ⟨B, hx⟩ : ∃ B, bs[i]? = some B := ⟨bs[i]'(by rw [HKL.out]; exact hlt), by simp⟩
      have hBm := List.mem_of_getElem? hx
      have hat : (cl ++ bs.drop i)[i]? = some B := by
        rw [List.getElem?_append_right (by rw [ci.m]; omega), ci.m, Nat.sub_self, List.getElem?_drop]; simpa using hx
      have hlen : (cl ++ bs.drop i).length = k := by rw [List.length_append, ci.m, List.length_drop, HKL.out]; omega
      have hsl := ci.s
      have hsl2 : Sl wr 43 7 (.slice (some ⟨b, off, none⟩) k c) (cl ++ bs.drop i).length (blkC (cl ++ bs.drop i)) := by rw [hlen]; exact hsl
      obtain ⟨p0, p1, p2, p3, p4, p5, p6⟩ := blk_at hsl2 i hat
      have fzb := hsl.cell.2.2.1
      have lb := hsl.cell.2.2.2
      obtain ⟨ia, ic, hiv⟩ := ((HOK.out.q B hBm).i).shape
      obtain ⟨ja, jc, hpv⟩ := ((HOK.out.q B hBm).p).shape
      rw [hpv] at p1
      rw [hiv] at p2
      have HX := hid hx
      have HLT := hid hlt
      have GX : Hid (Gr w wr) := GW.out.trans ci.g
      have HCX := hid (fun W (g : Gr w W) => HCI.out B hBm W g)
      have HPX := hid (fun W (g : Gr w W) => HCP.out B hBm W g)
      have HQX := hid (fun x (hx : x ∈ B.phis) W (g : Gr w W) => (((HOK.out.q B hBm).q x hx).gr g))
      have HZX := hid (HZ.out B hBm).2.2
      rw [hiv] at HCX
      rw [hpv] at HPX
      have hnp := (HZ.out B hBm).2.1
      clear hx hBm hat hlen hsl hsl2 ci p0 p3 p4 p5 p6
      go_upto_region 7 with (go_at_call 39; refine (HPX.out _ GX.out).mono ?_; rintro e3 w4 ⟨v4, rfl, s4, g4, f4⟩; obtain ⟨pa, cp, rfl⟩ := s4.shape; have c1 := g4.val p1; have fz4 : ∀ j, w4.frozen? ⟨b, j, none⟩ = false := fun j => (g4.frozen (p := ⟨b, j, none⟩) lb).trans (fzb j); have lb4 : b < w4.heap.size := Nat.lt_of_lt_of_le lb g4.size; have S4 := hid s4; have G4 := hid g4; have F4 := hid f4; clear s4 g4 f4)
      have hlo := CI.out.low
      have hqs : qb + 1 ≤ wr.heap.size := hlo.2.2.1
      have hWb : W1.heap.size ≤ b := hlo.2.2.2.1
      have hbq : ¬ b = qb := hlo.2.2.2.2
      have hwW : w.heap.size ≤ W1.heap.size := GW.out.size
      have hd : bs.drop i = B :: bs.drop (i + 1) := by obtain ⟨h3, h4⟩ := List.getElem?_eq_some_iff.1 HX.out; rw [List.drop_eq_getElem_cons h3, h4]
      have t5 : Tch [b] w4 (w4.setCell ⟨b, off + i * 7 + 1, none⟩ (.slice pa B.phis.length cp)) := (Tch.refl [b] w4).setCell (.inl (by simp)) _
      have g5 : Gr W1 (w4.setCell ⟨b, off + i * 7 + 1, none⟩ (.slice pa B.phis.length cp)) := (CI.out.g.trans G4.out).setCell hWb _
      have c2 : (w4.setCell ⟨b, off + i * 7 + 1, none⟩ (.slice pa B.phis.length cp)).cell? ⟨b, off + i * 7 + 2, none⟩ = some (.slice ia B.ins.length ic) := by rw [World.cell?_setCell_other _ _ _ _ (by simp)]; exact G4.out.val p2
      have c3 : (w4.setCell ⟨b, off + i * 7 + 1, none⟩ (.slice pa B.phis.length cp)).cell? ⟨qb, 0, none⟩ = some (.slice (some ⟨b, off, none⟩) k c) := tch_val t5 (G4.out.val CI.out.c) (by simp; omega)
      have s5 : Sl (w4.setCell ⟨b, off + i * 7 + 1, none⟩ (.slice pa B.phis.length cp)) 43 7 (.slice (some ⟨b, off, none⟩) k c) k (blkC (cl ++ { B with pv := .slice pa B.phis.length cp } :: bs.drop (i + 1))) := by
        have hs0 := CI.out.s.gr G4.out
        rw [hd] at hs0
        exact sl_mid CI.out.m hs0 1 (by omega) _ rfl
      have L5 := hid ((CI.out.l.kept G4.out.tch (by simp)).kept t5 (fun k hk => by simp at hk; subst hk; exact .inl (by omega)))
      have P5 := hid (S4.out.kept t5 (fun x hx h3 => by simp at h3; subst h3; have := F4.out _ hx; omega))
      have B5 := hid (fun x hx => (⟨F4.out x hx, S4.out.lt x hx⟩ : wr.heap.size ≤ x ∧ x < w4.heap.size))
      have z5 : (w4.setCell ⟨b, off + i * 7 + 1, none⟩ (.slice pa B.phis.length cp)).heap.size = w4.heap.size := by simp [World.setCell]
      have r4 : wr.heap.size ≤ w4.heap.size := G4.out.size
      have fz5 : ∀ j, (w4.setCell ⟨b, off + i * 7 + 1, none⟩ (.slice pa B.phis.length cp)).frozen? ⟨b, j, none⟩ = false := fun j => by rw [World.frozen?_setCell]; exact fz4 j
      have S5 := hid s5
      have G5 := hid g5
      have C3 := hid c3
      clear s5 g5 c3 t5 c1 fz4 S4 F4 G4 p1 p2 fzb cq lq HPX
      generalize w4.setCell ⟨b, off + i * 7 + 1, none⟩ (.slice pa B.phis.length cp) = w5 at *
      rw [← z5] at r4 B5 lb4
      clear z5
      have R4 := hid r4
      have HLO := hid (⟨hqs, hWb, hbq, hwW, hd⟩ : qb + 1 ≤ wr.heap.size ∧ W1.heap.size ≤ b ∧ ¬ b = qb ∧ w.heap.size ≤ W1.heap.size ∧ bs.drop i = B :: bs.drop (i + 1))
      have hbl2 : b < wr.heap.size := by omega
      clear r4 hqs hWb hbq hwW hd hlo
      go_upto_region 8 with (go_at_call 40; refine (HCX.out _ (GW.out.trans G5.out)).mono ?_; rintro e3 w6 ⟨v6, rfl, s6, g6, f6⟩; obtain ⟨qa, cq, rfl⟩ := s6.shape; have c4 := g6.val c2; have fz6 : ∀ j, w6.frozen? ⟨b, j, none⟩ = false := fun j => (g6.frozen (p := ⟨b, j, none⟩) lb4).trans (fz5 j); have lb6 : b < w6.heap.size := Nat.lt_of_lt_of_le lb4 g6.size; have S6 := hid s6; have G6 := hid g6; have F6 := hid f6; clear s6 g6 f6)
      obtain ⟨hqs, hWb, hbq, hwW, hd⟩ := HLO.out
      have t7 : Tch [b] w6 (w6.setCell ⟨b, off + i * 7 + 2, none⟩ (.slice qa B.ins.length cq)) := (Tch.refl [b] w6).setCell (.inl (by simp)) _
      have z7 : (w6.setCell ⟨b, off + i * 7 + 2, none⟩ (.slice qa B.ins.length cq)).heap.size = w6.heap.size := by simp [World.setCell]
      have J0 : Hid (CJ W1 (qb + 1) wr.heap.size w6.heap.size (w6.setCell ⟨b, off + i * 7 + 2, none⟩ (.slice qa B.ins.length cq)) b off k c qb cl { B with pv := .slice pa B.phis.length cp, iv := .slice qa B.ins.length cq } (bs.drop (i + 1)) [] B.phis) := by
        have r4 := R4.out
        have r6 := G6.out.size
        refine ⟨(G5.out.trans G6.out).setCell hWb _, sl_mid CI.out.m (S5.out.gr G6.out) 2 (by omega) _ rfl, (L5.out.kept G6.out.tch (by simp)).kept t7 (fun k hk => by simp at hk; subst hk; exact .inl (by omega)), ⟨by simp, ?_, ?_⟩, ?_, ?_, tch_val t7 (G6.out.val C3.out) (by simp; omega), ⟨by omega, by omega, hqs, by omega, by rw [z7]; omega, hWb, hbq⟩⟩
        · intro u hu x hx
          simp at hu
          rcases hu with rfl | rfl
          · have := B5.out x hx; omega
          · have := F6.out x hx; have := S6.out.lt x hx; omega
        · refine List.pairwise_cons.2 ⟨fun u hu x hx hx2 => ?_, by simp⟩
          simp at hu; subst hu
          have := (B5.out x hx).2; have := F6.out x hx2; omega
        · rw [List.nil_append]
          exact (P5.out.gr G6.out).kept t7 (fun x hx h3 => by simp at h3; subst h3; have := (B5.out _ hx).1; omega)
        · exact S6.out.kept t7 (fun x hx h3 => by simp at h3; subst h3; have := F6.out _ hx; omega)
      have HM := hid CI.out.m
      have HD := hid CI.out.d
      have HWW := hid hwW
      clear t7 z7 c2 c4 fz5 fz6 lb4 lb6 lb S5 G5 G6 F6 S6 L5 P5 B5 R4 C3 HLO hqs hWb hbq hwW hd CI HCX GX
      generalize w6.setCell ⟨b, off + i * 7 + 2, none⟩ (.slice qa B.ins.length cq) = w7 at *
      generalize w6.heap.size = hi6 at *
      generalize wr.heap.size = n0 at *
      obtain ⟨np, hnpe⟩ : ∃ m, B.phis.length = m := ⟨_, rfl⟩
      have HNP := hid hnpe
      have j1 := J0.out
      have a1 := (blk_at (x := { B with pv := .slice pa B.phis.length cp, iv := .slice qa B.ins.length cq }) (l := cl ++ { B with pv := .slice pa B.phis.length cp, iv := .slice qa B.ins.length cq } :: bs.drop (i + 1)) (by have h3 := j1.s; rwa [show k = (cl ++ { B with pv := .slice pa B.phis.length cp, iv := .slice qa B.ins.length cq } :: bs.drop (i + 1)).length by have := HLT.out; have := HKL.out; have := HM.out; simp; omega] at h3) i (by rw [List.getElem?_append_right (by rw [HM.out]; omega), HM.out]; simp))
      obtain ⟨_, p1, _⟩ := a1
      have lb := cell_lt p1
      simp only at lb
      clear j1
      rw [hnpe] at p1 J0 hnp
      clear hnpe
      go_upto_region 9 with fail
      clear p1 lb
      go_loopw [42] (fun vj wz => ∃ (ps : List PhiM) (hi : Nat), vj = .int .i64 (ps.length : Nat) ∧ ps.length ≤ np ∧ Hid (CJ W1 (qb + 1) n0 hi wz b off k c qb cl { B with pv := .slice pa np cp, iv := .slice qa B.ins.length cq } (bs.drop (i + 1)) ps (B.phis.drop ps.length)) ∧ Hid (ps.map PhiM.pd = (B.phis.take ps.length).map PhiM.pd)) (fun vj _ => np - (intOf vj).toNat)
      case atStart => exact ⟨[], hi6, rfl, Nat.zero_le _, J0.out, hid (by simp)⟩
      case round =>
        obtain ⟨ps, hi2, rfl, hj, HJ, HPD⟩ := hrel
        rename World => wz
        clear J0
        by_cases hlj : ps.length < np
        · obtain ⟨x, hx⟩ : ∃ x, B.phis[ps.length]? = some x := ⟨B.phis[ps.length]'(by rw [HNP.out]; exact hlj), by simp⟩
          have hxm := List.mem_of_getElem? hx
          have hdj : B.phis.drop ps.length = x :: B.phis.drop (ps.length + 1) := by obtain ⟨h3, h4⟩ := List.getElem?_eq_some_iff.1 hx; rw [List.drop_eq_getElem_cons h3, h4]
          rw [hdj] at HJ
          have hnl : (ps ++ x :: B.phis.drop (ps.length + 1)).length = np := by rw [← hdj]; have := HNP.out; simp; omega
          have hsp := HJ.out.sp
          obtain ⟨pb, po, cp', hpv⟩ := hsp.ptr (by rw [hnl]; omega)
          rw [hnl] at hpv
          cases hpv
          have HNL := hid hnl
          have HXX := hid hx
          obtain ⟨f0, f1, f2⟩ := phi_at (by rw [← hnl] at hsp; exact hsp) ps.length (x := x) (by simp)
          have a1 := (blk_at (x := { B with pv := .slice (some ⟨pb, po, none⟩) np cp, iv := .slice qa B.ins.length cq }) (l := cl ++ { B with pv := .slice (some ⟨pb, po, none⟩) np cp, iv := .slice qa B.ins.length cq } :: bs.drop (i + 1)) (by have h3 := HJ.out.s; rwa [show k = (cl ++ { B with pv := .slice (some ⟨pb, po, none⟩) np cp, iv := .slice qa B.ins.length cq } :: bs.drop (i + 1)).length by have := HLT.out; have := HKL.out; have := HM.out; simp; omega] at h3) i (by rw [List.getElem?_append_right (by rw [HM.out]; omega), HM.out]; simp))
          obtain ⟨_, p1, _⟩ := a1
          have CB := hid p1
          have kx := HQX.out x hxm wz (GW.out.trans HJ.out.g)
          obtain ⟨ua, uc, hu⟩ := kx.f.shape
          obtain ⟨ya, yc, hy⟩ := kx.a.shape
          rw [hu] at f1
          rw [hy] at f2
          have CF := hid f1
          have kx0 := HQX.out x hxm w (Gr.refl w)
          have LA0 : Hid (∀ y ∈ blks x.av, y < w.heap.size) := hid kx0.a.lt
          clear kx0
          have KF := hid kx.f
          have KA := hid kx.a
          rw [hu] at KF
          rw [hy] at KA LA0
          have CG := hid f2
          have FZ := hid (fun W (t : Tch [] wz W) => (hsp.kept t (by simp)).cell.2.2.1 (po + ps.length * 3 + 1))
          have sxm := HZX.out x hxm
          have HCL := hid (fun W (t : Tch [] wz W) => clone_intsM (.slice ua x.frm.length uc) x.frm sxm.1 W (KF.out.kept t (by simp)))
          have SXM := hid sxm
          clear hx hxm hdj hnl hsp f0 f1 f2 p1 kx hu hy sxm
          obtain ⟨j, hjj⟩ : ∃ j, ps.length = j := ⟨_, rfl⟩
          rw [hjj] at CF CG FZ hlj hj HXX ⊢
          have HJJ := hid hjj
          clear hjj
          go_upto_region 11 with fail
          have KS : Hid (∀ w', Tch [] wz w' → Tch [] wz w' ∧ w'.cell? ⟨b, off + i * 7 + 1, none⟩ = some (.slice (some ⟨pb, po, none⟩) np cp) ∧ w'.cell? ⟨pb, po + j * 3 + 1, none⟩ = some (.slice ua x.frm.length uc)) := fun w' t => ⟨t, tch_val t CB.out (by simp), tch_val t CF.out (by simp)⟩
          refine wp_region_z (fun w' => Tch [] wz w' ∧ w'.cell? ⟨b, off + i * 7 + 1, none⟩ = some (.slice (some ⟨pb, po, none⟩) np cp) ∧ w'.cell? ⟨pb, po + j * 3 + 1, none⟩ = some (.slice ua x.frm.length uc)) 16 hmo (KS.out _ (Tch.refl _ _).drew) (fun hHeld => ?_)
          refine wpAnyZ_takeT 17 (i := 0) (oi := { dst := some 45, op := Go.Op.move (Go.Operand.tmp 5), type := 66, pos := "program.go:28", after := #[], guard := none }) (v := ?_) rfl (by kernel_rfl) (by kernel_rfl) (by kernel_rfl) (by kernel_rfl) (by kernel_rfl) (fun _ _ _ h => h) (Or.inl ⟨by rfl, ?_⟩) (by assumption) ?_
          rotate_left
          (intro w hSw; (try dsimp only at hSw); go_simp; try (with_reducible rfl))
          try simp only [Act.put, List.setIfInBounds_toArray, List.set_cons_zero, List.set_cons_succ]
          refine wpAnyZ_takeT 17 (i := 1) (oi := { dst := some 46, op := Go.Op.nilCheck (Go.Operand.tmp 45), type := 0, pos := "program.go:28", after := #[{ on := 0, ground := Go.Ground.data }], guard := none }) (v := ?_) rfl (by kernel_rfl) (by kernel_rfl) (by kernel_rfl) (by kernel_rfl) (by kernel_rfl) (fun _ _ _ h => h) (Or.inl ⟨by rfl, ?_⟩) (by assumption) ?_
          rotate_left
          (intro w hSw; (try dsimp only at hSw); go_simp; try (with_reducible rfl))
          try simp only [Act.put, List.setIfInBounds_toArray, List.set_cons_zero, List.set_cons_succ]
          refine wpAnyZ_takeT 17 (i := 2) (oi := { dst := some 47, op := Go.Op.fieldAddr 43 (Go.Operand.tmp 46) 1, type := 0, pos := "program.go:28", after := #[{ on := 1, ground := Go.Ground.data }], guard := none }) (v := ?_) rfl (by kernel_rfl) (by kernel_rfl) (by kernel_rfl) (by kernel_rfl) (by kernel_rfl) (fun _ _ _ h => h) (Or.inl ⟨by rfl, ?_⟩) (by assumption) ?_
          rotate_left
          (intro w hSw; (try dsimp only at hSw); go_simp; try (with_reducible rfl))
          try simp only [Act.put, List.setIfInBounds_toArray, List.set_cons_zero, List.set_cons_succ]
          refine wpAnyZ_takeT 17 (i := 3) (oi := { dst := some 48, op := Go.Op.load 41 (Go.Operand.tmp 47), type := 41, pos := "program.go:28", after := #[{ on := 2, ground := Go.Ground.data }], guard := none }) (v := ?_) rfl (by kernel_rfl) (by kernel_rfl) (by kernel_rfl) (by kernel_rfl) (by kernel_rfl) (fun _ _ _ h => h) (Or.inl ⟨by rfl, ?_⟩) (by assumption) ?_
          rotate_left
          (intro w hSw; (try dsimp only at hSw); go_simp; try (with_reducible rfl))
          try simp only [Act.put, List.setIfInBounds_toArray, List.set_cons_zero, List.set_cons_succ]
          refine wpAnyZ_takeT 17 (i := 4) (oi := { dst := some 49, op := Go.Op.move (Go.Operand.tmp 6), type := 3, pos := "program.go:28", after := #[], guard := none }) (v := ?_) rfl (by kernel_rfl) (by kernel_rfl) (by kernel_rfl) (by kernel_rfl) (by kernel_rfl) (fun _ _ _ h => h) (Or.inl ⟨by rfl, ?_⟩) (by assumption) ?_
          rotate_left
          (intro w hSw; (try dsimp only at hSw); go_simp; try (with_reducible rfl))
          try simp only [Act.put, List.setIfInBounds_toArray, List.set_cons_zero, List.set_cons_succ]
          refine wpAnyZ_takeT 17 (i := 5) (oi := { dst := some 50, op := Go.Op.move (Go.Operand.tmp 5), type := 66, pos := "program.go:28", after := #[], guard := none }) (v := ?_) rfl (by kernel_rfl) (by kernel_rfl) (by kernel_rfl) (by kernel_rfl) (by kernel_rfl) (fun _ _ _ h => h) (Or.inl ⟨by rfl, ?_⟩) (by assumption) ?_
          rotate_left
          (intro w hSw; (try dsimp only at hSw); go_simp; try (with_reducible rfl))
          try simp only [Act.put, List.setIfInBounds_toArray, List.set_cons_zero, List.set_cons_succ]
          refine wpAnyZ_takeT 17 (i := 6) (oi := { dst := some 51, op := Go.Op.nilCheck (Go.Operand.tmp 50), type := 0, pos := "program.go:28", after := #[{ on := 5, ground := Go.Ground.data }], guard := none }) (v := ?_) rfl (by kernel_rfl) (by kernel_rfl) (by kernel_rfl) (by kernel_rfl) (by kernel_rfl) (fun _ _ _ h => h) (Or.inl ⟨by rfl, ?_⟩) (by assumption) ?_
          rotate_left
          (intro w hSw; (try dsimp only at hSw); go_simp; try (with_reducible rfl))
          try simp only [Act.put, List.setIfInBounds_toArray, List.set_cons_zero, List.set_cons_succ]
          refine wpAnyZ_takeT 17 (i := 7) (oi := { dst := some 52, op := Go.Op.fieldAddr 43 (Go.Operand.tmp 51) 1, type := 0, pos := "program.go:28", after := #[{ on := 6, ground := Go.Ground.data }], guard := none }) (v := ?_) rfl (by kernel_rfl) (by kernel_rfl) (by kernel_rfl) (by kernel_rfl) (by kernel_rfl) (fun _ _ _ h => h) (Or.inl ⟨by rfl, ?_⟩) (by assumption) ?_
          rotate_left
          (intro w hSw; (try dsimp only at hSw); go_simp; try (with_reducible rfl))
          try simp only [Act.put, List.setIfInBounds_toArray, List.set_cons_zero, List.set_cons_succ]
          refine wpAnyZ_takeT 17 (i := 8) (oi := { dst := some 53, op := Go.Op.load 41 (Go.Operand.tmp 52), type := 41, pos := "program.go:28", after := #[{ on := 7, ground := Go.Ground.data }], guard := none }) (v := ?_) rfl (by kernel_rfl) (by kernel_rfl) (by kernel_rfl) (by kernel_rfl) (by kernel_rfl) (fun _ _ _ h => h) (Or.inl ⟨by rfl, ?_⟩) (by assumption) ?_
          rotate_left
          (intro w hSw; (try dsimp only at hSw); go_simp; try (with_reducible rfl))
          try simp only [Act.put, List.setIfInBounds_toArray, List.set_cons_zero, List.set_cons_succ]
          refine wpAnyZ_takeT 17 (i := 9) (oi := { dst := some 54, op := Go.Op.move (Go.Operand.tmp 6), type := 3, pos := "program.go:28", after := #[], guard := none }) (v := ?_) rfl (by kernel_rfl) (by kernel_rfl) (by kernel_rfl) (by kernel_rfl) (by kernel_rfl) (fun _ _ _ h => h) (Or.inl ⟨by rfl, ?_⟩) (by assumption) ?_
          rotate_left
          (intro w hSw; (try dsimp only at hSw); go_simp; try (with_reducible rfl))
          try simp only [Act.put, List.setIfInBounds_toArray, List.set_cons_zero, List.set_cons_succ]
          refine wpAnyZ_takeT 17 (i := 10) (oi := { dst := some 55, op := Go.Op.indexAddr 41 (Go.Operand.tmp 53) (Go.Operand.tmp 54), type := 0, pos := "program.go:28", after := #[{ on := 8, ground := Go.Ground.data }, { on := 9, ground := Go.Ground.data }], guard := none }) (v := ?_) rfl (by kernel_rfl) (by kernel_rfl) (by kernel_rfl) (by kernel_rfl) (by kernel_rfl) (fun _ _ _ h => h) (Or.inl ⟨by rfl, ?_⟩) (by assumption) ?_
          rotate_left
          (intro w hSw; (try dsimp only at hSw); go_simp; try (with_reducible rfl))
          try simp only [Act.put, List.setIfInBounds_toArray, List.set_cons_zero, List.set_cons_succ]
          refine wpAnyZ_takeT 17 (i := 11) (oi := { dst := some 56, op := Go.Op.fieldAddr 73 (Go.Operand.tmp 55) 1, type := 0, pos := "program.go:28", after := #[{ on := 10, ground := Go.Ground.data }], guard := none }) (v := ?_) rfl (by kernel_rfl) (by kernel_rfl) (by kernel_rfl) (by kernel_rfl) (by kernel_rfl) (fun _ _ _ h => h) (Or.inl ⟨by rfl, ?_⟩) (by assumption) ?_
          rotate_left
          (intro w hSw; (try dsimp only at hSw); go_simp; try (with_reducible rfl))
          try simp only [Act.put, List.setIfInBounds_toArray, List.set_cons_zero, List.set_cons_succ]
          refine wpAnyZ_takeT 17 (i := 12) (oi := { dst := some 57, op := Go.Op.load 71 (Go.Operand.tmp 56), type := 71, pos := "program.go:28", after := #[{ on := 11, ground := Go.Ground.data }], guard := none }) (v := ?_) rfl (by kernel_rfl) (by kernel_rfl) (by kernel_rfl) (by kernel_rfl) (by kernel_rfl) (fun _ _ _ h => h) (Or.inl ⟨by rfl, ?_⟩) (by assumption) ?_
          rotate_left
          (intro w hSw; (try dsimp only at hSw); go_simp; try (with_reducible rfl))
          try simp only [Act.put, List.setIfInBounds_toArray, List.set_cons_zero, List.set_cons_succ]
          refine wpAnyZ_step (i := 13) (o := { dst := some 58, op := Go.Op.call { callee := Go.Callee.value (Go.Operand.func 41), args := #[Go.Operand.tmp 57], argTypes := #[71] }, type := 71, pos := "program.go:28", after := #[{ on := 12, ground := Go.Ground.data }], guard := none }) (by kernel_rfl) (by kernel_rfl) (fun Kq hK => ?_)
          go_simp
          go_at_call 41
          refine (HCL.out _ hHeld.1).mono ?_
          rintro e w8 ⟨v8, rfl, s8, g8, f8⟩
          obtain ⟨va8, vc8, rfl⟩ := s8.shape
          refine hK.out _ _ (KS.out _ (hHeld.1.trans g8.tch)) (fun hH2 => ?_)
          clear hHeld hK Kq
          have hHeld := hH2
          clear hH2
          try simp only [Act.put, List.setIfInBounds_toArray, List.set_cons_zero, List.set_cons_succ]
          have TZ := hid hHeld.1
          have S8 := hid s8
          have F8 := hid f8
          have G8 := hid g8
          clear s8 f8 g8
          refine wpAnyZ_takeT 17 (i := 14) (oi := { dst := some 59, op := Go.Op.indexAddr 41 (Go.Operand.tmp 48) (Go.Operand.tmp 49), type := 0, pos := "program.go:28", after := #[{ on := 3, ground := Go.Ground.data }, { on := 4, ground := Go.Ground.data }, { on := 0, ground := Go.Ground.phase }, { on := 1, ground := Go.Ground.phase }, { on := 2, ground := Go.Ground.phase }, { on := 3, ground := Go.Ground.phase }, { on := 4, ground := Go.Ground.phase }, { on := 5, ground := Go.Ground.phase }, { on := 6, ground := Go.Ground.phase }, { on := 7, ground := Go.Ground.phase }, { on := 8, ground := Go.Ground.phase }, { on := 9, ground := Go.Ground.phase }, { on := 10, ground := Go.Ground.phase }, { on := 11, ground := Go.Ground.phase }, { on := 12, ground := Go.Ground.phase }, { on := 13, ground := Go.Ground.phase }], guard := none }) (v := ?_) rfl (by kernel_rfl) (by kernel_rfl) (by kernel_rfl) (by kernel_rfl) (by kernel_rfl) (fun _ _ _ h => h) (Or.inl ⟨by rfl, ?_⟩) (by assumption) ?_
          rotate_left
          (intro w hSw; (try dsimp only at hSw); go_simp; try (with_reducible rfl))
          try simp only [Act.put, List.setIfInBounds_toArray, List.set_cons_zero, List.set_cons_succ]
          refine wpAnyZ_takeT 17 (i := 15) (oi := { dst := some 60, op := Go.Op.fieldAddr 73 (Go.Operand.tmp 59) 1, type := 0, pos := "program.go:28", after := #[{ on := 14, ground := Go.Ground.data }, { on := 0, ground := Go.Ground.phase }, { on := 1, ground := Go.Ground.phase }, { on := 2, ground := Go.Ground.phase }, { on := 3, ground := Go.Ground.phase }, { on := 4, ground := Go.Ground.phase }, { on := 5, ground := Go.Ground.phase }, { on := 6, ground := Go.Ground.phase }, { on := 7, ground := Go.Ground.phase }, { on := 8, ground := Go.Ground.phase }, { on := 9, ground := Go.Ground.phase }, { on := 10, ground := Go.Ground.phase }, { on := 11, ground := Go.Ground.phase }, { on := 12, ground := Go.Ground.phase }, { on := 13, ground := Go.Ground.phase }], guard := none }) (v := ?_) rfl (by kernel_rfl) (by kernel_rfl) (by kernel_rfl) (by kernel_rfl) (by kernel_rfl) (fun _ _ _ h => h) (Or.inl ⟨by rfl, ?_⟩) (by assumption) ?_
          rotate_left
          (intro w hSw; (try dsimp only at hSw); go_simp; try (with_reducible rfl))
          try simp only [Act.put, List.setIfInBounds_toArray, List.set_cons_zero, List.set_cons_succ]
          refine wpAnyZ_last (o := { dst := none, op := Go.Op.store 71 (Go.Operand.tmp 60) (Go.Operand.tmp 58), type := 0, pos := "program.go:28", after := #[{ on := 15, ground := Go.Ground.data }, { on := 13, ground := Go.Ground.data }, { on := 13, ground := Go.Ground.chain }, { on := 0, ground := Go.Ground.phase }, { on := 1, ground := Go.Ground.phase }, { on := 2, ground := Go.Ground.phase }, { on := 3, ground := Go.Ground.phase }, { on := 4, ground := Go.Ground.phase }, { on := 5, ground := Go.Ground.phase }, { on := 6, ground := Go.Ground.phase }, { on := 7, ground := Go.Ground.phase }, { on := 8, ground := Go.Ground.phase }, { on := 9, ground := Go.Ground.phase }, { on := 10, ground := Go.Ground.phase }, { on := 11, ground := Go.Ground.phase }, { on := 12, ground := Go.Ground.phase }, { on := 13, ground := Go.Ground.phase }], guard := none }) (by kernel_rfl) (by kernel_rfl) (fun Kq hK => ?_)
          have cb8 := hHeld.2.1
          have cf8 := hHeld.2.2
          have lb8 := cell_lt cb8
          have lp8 := cell_lt cf8
          have fz8 := FZ.out _ TZ.out
          simp only at lb8 lp8
          go_simp
          refine hK.out _ _ ?_
          clear hK Kq
          try simp only [Act.put, List.setIfInBounds_toArray, List.set_cons_zero, List.set_cons_succ]
          clear hHeld cb8 cf8 lb8 lp8 fz8
          refine wpAnyZ_done (by kernel_rfl) (NoPanic.normal ?_) _
          obtain ⟨lo1, lo2, lo3, lo4, lo5, lo6, lo7⟩ := HJ.out.low
          have hpb : n0 ≤ pb ∧ pb < hi2 := HJ.out.f.b (.slice (some ⟨pb, po, none⟩) np cp) (by simp) pb (by simp [blks])
          have hww := HWW.out
          have hz8 : wz.heap.size ≤ w8.heap.size := TZ.out.size
          have F82 := hid (fun y hy => (⟨F8.out y hy, S8.out.lt y hy⟩ : wz.heap.size ≤ y ∧ y < w8.heap.size))
          have t9 : Tch [pb] w8 (w8.setCell ⟨pb, po + j * 3 + 1, none⟩ (.slice va8 x.frm.length vc8)) := (Tch.refl [pb] w8).setCell (.inl (by simp)) _
          have J9 : Hid (CJ W1 (qb + 1) n0 hi2 (w8.setCell ⟨pb, po + j * 3 + 1, none⟩ (.slice va8 x.frm.length vc8)) b off k c qb cl { B with pv := .slice (some ⟨pb, po, none⟩) np cp, iv := .slice qa B.ins.length cq } (bs.drop (i + 1)) ps ({ x with fv := .slice va8 x.frm.length vc8 } :: B.phis.drop (ps.length + 1))) := hid (by
            have h := (HJ.out.gr (((Gr.refl wz).drew).trans G8.out)).put (x' := { x with fv := .slice va8 x.frm.length vc8 }) (u := .slice va8 x.frm.length vc8) (jj := 1) rfl HNL.out (by omega) rfl
            rw [show po + ps.length * 3 + 1 = po + j * 3 + 1 by rw [HJJ.out]] at h
            exact h)
          have S9 := hid (S8.out.kept t9 (fun y hy h3 => by simp at h3; subst h3; have := (F82.out _ hy).1; omega))
          have CB9 := hid (tch_val t9 (tch_val TZ.out CB.out (by simp)) (by simp; omega))
          have CF9 : Hid ((w8.setCell ⟨pb, po + j * 3 + 1, none⟩ (.slice va8 x.frm.length vc8)).cell? ⟨pb, po + j * 3 + 2, none⟩ = some (.slice ya x.arg.length yc)) := hid (by rw [World.cell?_setCell_other _ _ _ _ (by simp)]; exact tch_val TZ.out CG.out (by simp))
          have K9 := hid ((KA.out.kept TZ.out (by simp)).kept t9 (fun y hy h3 => by simp at h3; subst h3; have := LA0.out _ hy; omega))
          have z9 : (w8.setCell ⟨pb, po + j * 3 + 1, none⟩ (.slice va8 x.frm.length vc8)).heap.size = w8.heap.size := by simp [World.setCell]
          have FZ9 := hid (fun W (t : Tch [] (w8.setCell ⟨pb, po + j * 3 + 1, none⟩ (.slice va8 x.frm.length vc8)) W) => (Sl.cell (J9.out.sp.kept t (by simp))).2.2.1 (po + j * 3 + 2))
          have Z9 := hid z9
          have Z8 := hid hz8
          have HPB := hid hpb
          have HL5 := hid (⟨lo3, lo4, lo5⟩ : qb + 1 ≤ n0 ∧ n0 ≤ hi2 ∧ hi2 ≤ wz.heap.size)
          clear t9 z9 hz8 KS S8 F8 G8 TZ CB CF CG FZ HCL KF KA HJ lo1 lo2 lo3 lo4 lo5 lo6 lo7 hpb hww
          generalize w8.setCell ⟨pb, po + j * 3 + 1, none⟩ (.slice va8 x.frm.length vc8) = w9 at *
          have HC9 := hid (fun W (t : Tch [] w9 W) => clone_intsM (.slice ya x.arg.length yc) x.arg SXM.out.2 W (K9.out.kept t (by simp)))
          rw [← Z9.out] at F82 Z8
          clear Z9
          go_upto_region 12 with fail
          have KS : Hid (∀ w', Tch [] w9 w' → Tch [] w9 w' ∧ w'.cell? ⟨b, off + i * 7 + 1, none⟩ = some (.slice (some ⟨pb, po, none⟩) np cp) ∧ w'.cell? ⟨pb, po + j * 3 + 2, none⟩ = some (.slice ya x.arg.length yc)) := fun w' t => ⟨t, tch_val t CB9.out (by simp), tch_val t CF9.out (by simp)⟩
          refine wp_region_z (fun w' => Tch [] w9 w' ∧ w'.cell? ⟨b, off + i * 7 + 1, none⟩ = some (.slice (some ⟨pb, po, none⟩) np cp) ∧ w'.cell? ⟨pb, po + j * 3 + 2, none⟩ = some (.slice ya x.arg.length yc)) 16 hmo (KS.out _ (Tch.refl _ _).drew) (fun hHeld => ?_)
          refine wpAnyZ_takeT 17 (i := 0) (oi := { dst := some 61, op := Go.Op.move (Go.Operand.tmp 5), type := 66, pos := "program.go:29", after := #[], guard := none }) (v := ?_) rfl (by kernel_rfl) (by kernel_rfl) (by kernel_rfl) (by kernel_rfl) (by kernel_rfl) (fun _ _ _ h => h) (Or.inl ⟨by rfl, ?_⟩) (by assumption) ?_
          rotate_left
          (intro w hSw; (try dsimp only at hSw); go_simp; try (with_reducible rfl))
          try simp only [Act.put, List.setIfInBounds_toArray, List.set_cons_zero, List.set_cons_succ]
          refine wpAnyZ_takeT 17 (i := 1) (oi := { dst := some 62, op := Go.Op.nilCheck (Go.Operand.tmp 61), type := 0, pos := "program.go:29", after := #[{ on := 0, ground := Go.Ground.data }], guard := none }) (v := ?_) rfl (by kernel_rfl) (by kernel_rfl) (by kernel_rfl) (by kernel_rfl) (by kernel_rfl) (fun _ _ _ h => h) (Or.inl ⟨by rfl, ?_⟩) (by assumption) ?_
          rotate_left
          (intro w hSw; (try dsimp only at hSw); go_simp; try (with_reducible rfl))
          try simp only [Act.put, List.setIfInBounds_toArray, List.set_cons_zero, List.set_cons_succ]
          refine wpAnyZ_takeT 17 (i := 2) (oi := { dst := some 63, op := Go.Op.fieldAddr 43 (Go.Operand.tmp 62) 1, type := 0, pos := "program.go:29", after := #[{ on := 1, ground := Go.Ground.data }], guard := none }) (v := ?_) rfl (by kernel_rfl) (by kernel_rfl) (by kernel_rfl) (by kernel_rfl) (by kernel_rfl) (fun _ _ _ h => h) (Or.inl ⟨by rfl, ?_⟩) (by assumption) ?_
          rotate_left
          (intro w hSw; (try dsimp only at hSw); go_simp; try (with_reducible rfl))
          try simp only [Act.put, List.setIfInBounds_toArray, List.set_cons_zero, List.set_cons_succ]
          refine wpAnyZ_takeT 17 (i := 3) (oi := { dst := some 64, op := Go.Op.load 41 (Go.Operand.tmp 63), type := 41, pos := "program.go:29", after := #[{ on := 2, ground := Go.Ground.data }], guard := none }) (v := ?_) rfl (by kernel_rfl) (by kernel_rfl) (by kernel_rfl) (by kernel_rfl) (by kernel_rfl) (fun _ _ _ h => h) (Or.inl ⟨by rfl, ?_⟩) (by assumption) ?_
          rotate_left
          (intro w hSw; (try dsimp only at hSw); go_simp; try (with_reducible rfl))
          try simp only [Act.put, List.setIfInBounds_toArray, List.set_cons_zero, List.set_cons_succ]
          refine wpAnyZ_takeT 17 (i := 4) (oi := { dst := some 65, op := Go.Op.move (Go.Operand.tmp 6), type := 3, pos := "program.go:29", after := #[], guard := none }) (v := ?_) rfl (by kernel_rfl) (by kernel_rfl) (by kernel_rfl) (by kernel_rfl) (by kernel_rfl) (fun _ _ _ h => h) (Or.inl ⟨by rfl, ?_⟩) (by assumption) ?_
          rotate_left
          (intro w hSw; (try dsimp only at hSw); go_simp; try (with_reducible rfl))
          try simp only [Act.put, List.setIfInBounds_toArray, List.set_cons_zero, List.set_cons_succ]
          refine wpAnyZ_takeT 17 (i := 5) (oi := { dst := some 66, op := Go.Op.move (Go.Operand.tmp 5), type := 66, pos := "program.go:29", after := #[], guard := none }) (v := ?_) rfl (by kernel_rfl) (by kernel_rfl) (by kernel_rfl) (by kernel_rfl) (by kernel_rfl) (fun _ _ _ h => h) (Or.inl ⟨by rfl, ?_⟩) (by assumption) ?_
          rotate_left
          (intro w hSw; (try dsimp only at hSw); go_simp; try (with_reducible rfl))
          try simp only [Act.put, List.setIfInBounds_toArray, List.set_cons_zero, List.set_cons_succ]
          refine wpAnyZ_takeT 17 (i := 6) (oi := { dst := some 67, op := Go.Op.nilCheck (Go.Operand.tmp 66), type := 0, pos := "program.go:29", after := #[{ on := 5, ground := Go.Ground.data }], guard := none }) (v := ?_) rfl (by kernel_rfl) (by kernel_rfl) (by kernel_rfl) (by kernel_rfl) (by kernel_rfl) (fun _ _ _ h => h) (Or.inl ⟨by rfl, ?_⟩) (by assumption) ?_
          rotate_left
          (intro w hSw; (try dsimp only at hSw); go_simp; try (with_reducible rfl))
          try simp only [Act.put, List.setIfInBounds_toArray, List.set_cons_zero, List.set_cons_succ]
          refine wpAnyZ_takeT 17 (i := 7) (oi := { dst := some 68, op := Go.Op.fieldAddr 43 (Go.Operand.tmp 67) 1, type := 0, pos := "program.go:29", after := #[{ on := 6, ground := Go.Ground.data }], guard := none }) (v := ?_) rfl (by kernel_rfl) (by kernel_rfl) (by kernel_rfl) (by kernel_rfl) (by kernel_rfl) (fun _ _ _ h => h) (Or.inl ⟨by rfl, ?_⟩) (by assumption) ?_
          rotate_left
          (intro w hSw; (try dsimp only at hSw); go_simp; try (with_reducible rfl))
          try simp only [Act.put, List.setIfInBounds_toArray, List.set_cons_zero, List.set_cons_succ]
          refine wpAnyZ_takeT 17 (i := 8) (oi := { dst := some 69, op := Go.Op.load 41 (Go.Operand.tmp 68), type := 41, pos := "program.go:29", after := #[{ on := 7, ground := Go.Ground.data }], guard := none }) (v := ?_) rfl (by kernel_rfl) (by kernel_rfl) (by kernel_rfl) (by kernel_rfl) (by kernel_rfl) (fun _ _ _ h => h) (Or.inl ⟨by rfl, ?_⟩) (by assumption) ?_
          rotate_left
          (intro w hSw; (try dsimp only at hSw); go_simp; try (with_reducible rfl))
          try simp only [Act.put, List.setIfInBounds_toArray, List.set_cons_zero, List.set_cons_succ]
          refine wpAnyZ_takeT 17 (i := 9) (oi := { dst := some 70, op := Go.Op.move (Go.Operand.tmp 6), type := 3, pos := "program.go:29", after := #[], guard := none }) (v := ?_) rfl (by kernel_rfl) (by kernel_rfl) (by kernel_rfl) (by kernel_rfl) (by kernel_rfl) (fun _ _ _ h => h) (Or.inl ⟨by rfl, ?_⟩) (by assumption) ?_
          rotate_left
          (intro w hSw; (try dsimp only at hSw); go_simp; try (with_reducible rfl))
          try simp only [Act.put, List.setIfInBounds_toArray, List.set_cons_zero, List.set_cons_succ]
          refine wpAnyZ_takeT 17 (i := 10) (oi := { dst := some 71, op := Go.Op.indexAddr 41 (Go.Operand.tmp 69) (Go.Operand.tmp 70), type := 0, pos := "program.go:29", after := #[{ on := 8, ground := Go.Ground.data }, { on := 9, ground := Go.Ground.data }], guard := none }) (v := ?_) rfl (by kernel_rfl) (by kernel_rfl) (by kernel_rfl) (by kernel_rfl) (by kernel_rfl) (fun _ _ _ h => h) (Or.inl ⟨by rfl, ?_⟩) (by assumption) ?_
          rotate_left
          (intro w hSw; (try dsimp only at hSw); go_simp; try (with_reducible rfl))
          try simp only [Act.put, List.setIfInBounds_toArray, List.set_cons_zero, List.set_cons_succ]
          refine wpAnyZ_takeT 17 (i := 11) (oi := { dst := some 72, op := Go.Op.fieldAddr 73 (Go.Operand.tmp 71) 2, type := 0, pos := "program.go:29", after := #[{ on := 10, ground := Go.Ground.data }], guard := none }) (v := ?_) rfl (by kernel_rfl) (by kernel_rfl) (by kernel_rfl) (by kernel_rfl) (by kernel_rfl) (fun _ _ _ h => h) (Or.inl ⟨by rfl, ?_⟩) (by assumption) ?_
          rotate_left
          (intro w hSw; (try dsimp only at hSw); go_simp; try (with_reducible rfl))
          try simp only [Act.put, List.setIfInBounds_toArray, List.set_cons_zero, List.set_cons_succ]
          refine wpAnyZ_takeT 17 (i := 12) (oi := { dst := some 73, op := Go.Op.load 71 (Go.Operand.tmp 72), type := 71, pos := "program.go:29", after := #[{ on := 11, ground := Go.Ground.data }], guard := none }) (v := ?_) rfl (by kernel_rfl) (by kernel_rfl) (by kernel_rfl) (by kernel_rfl) (by kernel_rfl) (fun _ _ _ h => h) (Or.inl ⟨by rfl, ?_⟩) (by assumption) ?_
          rotate_left
          (intro w hSw; (try dsimp only at hSw); go_simp; try (with_reducible rfl))
          try simp only [Act.put, List.setIfInBounds_toArray, List.set_cons_zero, List.set_cons_succ]
          refine wpAnyZ_step (i := 13) (o := { dst := some 74, op := Go.Op.call { callee := Go.Callee.value (Go.Operand.func 41), args := #[Go.Operand.tmp 73], argTypes := #[71] }, type := 71, pos := "program.go:29", after := #[{ on := 12, ground := Go.Ground.data }], guard := none }) (by kernel_rfl) (by kernel_rfl) (fun Kq hK => ?_)
          go_simp
          go_at_call 41
          refine (HC9.out _ hHeld.1).mono ?_
          rintro e w10 ⟨v8, rfl, s8, g8, f8⟩
          obtain ⟨va10, vc10, rfl⟩ := s8.shape
          refine hK.out _ _ (KS.out _ (hHeld.1.trans g8.tch)) (fun hH2 => ?_)
          clear hHeld hK Kq
          have hHeld := hH2
          clear hH2
          try simp only [Act.put, List.setIfInBounds_toArray, List.set_cons_zero, List.set_cons_succ]
          have TZ10 := hid hHeld.1
          have S10 := hid s8
          have F10 := hid f8
          have G10 := hid g8
          clear s8 f8 g8
          refine wpAnyZ_takeT 17 (i := 14) (oi := { dst := some 75, op := Go.Op.indexAddr 41 (Go.Operand.tmp 64) (Go.Operand.tmp 65), type := 0, pos := "program.go:29", after := #[{ on := 3, ground := Go.Ground.data }, { on := 4, ground := Go.Ground.data }, { on := 0, ground := Go.Ground.phase }, { on := 1, ground := Go.Ground.phase }, { on := 2, ground := Go.Ground.phase }, { on := 3, ground := Go.Ground.phase }, { on := 4, ground := Go.Ground.phase }, { on := 5, ground := Go.Ground.phase }, { on := 6, ground := Go.Ground.phase }, { on := 7, ground := Go.Ground.phase }, { on := 8, ground := Go.Ground.phase }, { on := 9, ground := Go.Ground.phase }, { on := 10, ground := Go.Ground.phase }, { on := 11, ground := Go.Ground.phase }, { on := 12, ground := Go.Ground.phase }, { on := 13, ground := Go.Ground.phase }], guard := none }) (v := ?_) rfl (by kernel_rfl) (by kernel_rfl) (by kernel_rfl) (by kernel_rfl) (by kernel_rfl) (fun _ _ _ h => h) (Or.inl ⟨by rfl, ?_⟩) (by assumption) ?_
          rotate_left
          (intro w hSw; (try dsimp only at hSw); go_simp; try (with_reducible rfl))
          try simp only [Act.put, List.setIfInBounds_toArray, List.set_cons_zero, List.set_cons_succ]
          refine wpAnyZ_takeT 17 (i := 15) (oi := { dst := some 76, op := Go.Op.fieldAddr 73 (Go.Operand.tmp 75) 2, type := 0, pos := "program.go:29", after := #[{ on := 14, ground := Go.Ground.data }, { on := 0, ground := Go.Ground.phase }, { on := 1, ground := Go.Ground.phase }, { on := 2, ground := Go.Ground.phase }, { on := 3, ground := Go.Ground.phase }, { on := 4, ground := Go.Ground.phase }, { on := 5, ground := Go.Ground.phase }, { on := 6, ground := Go.Ground.phase }, { on := 7, ground := Go.Ground.phase }, { on := 8, ground := Go.Ground.phase }, { on := 9, ground := Go.Ground.phase }, { on := 10, ground := Go.Ground.phase }, { on := 11, ground := Go.Ground.phase }, { on := 12, ground := Go.Ground.phase }, { on := 13, ground := Go.Ground.phase }], guard := none }) (v := ?_) rfl (by kernel_rfl) (by kernel_rfl) (by kernel_rfl) (by kernel_rfl) (by kernel_rfl) (fun _ _ _ h => h) (Or.inl ⟨by rfl, ?_⟩) (by assumption) ?_
          rotate_left
          (intro w hSw; (try dsimp only at hSw); go_simp; try (with_reducible rfl))
          try simp only [Act.put, List.setIfInBounds_toArray, List.set_cons_zero, List.set_cons_succ]
          refine wpAnyZ_last (o := { dst := none, op := Go.Op.store 71 (Go.Operand.tmp 76) (Go.Operand.tmp 74), type := 0, pos := "program.go:29", after := #[{ on := 15, ground := Go.Ground.data }, { on := 13, ground := Go.Ground.data }, { on := 13, ground := Go.Ground.chain }, { on := 0, ground := Go.Ground.phase }, { on := 1, ground := Go.Ground.phase }, { on := 2, ground := Go.Ground.phase }, { on := 3, ground := Go.Ground.phase }, { on := 4, ground := Go.Ground.phase }, { on := 5, ground := Go.Ground.phase }, { on := 6, ground := Go.Ground.phase }, { on := 7, ground := Go.Ground.phase }, { on := 8, ground := Go.Ground.phase }, { on := 9, ground := Go.Ground.phase }, { on := 10, ground := Go.Ground.phase }, { on := 11, ground := Go.Ground.phase }, { on := 12, ground := Go.Ground.phase }, { on := 13, ground := Go.Ground.phase }], guard := none }) (by kernel_rfl) (by kernel_rfl) (fun Kq hK => ?_)
          have cb8 := hHeld.2.1
          have cf8 := hHeld.2.2
          have lb8 := cell_lt cb8
          have lp8 := cell_lt cf8
          have fz8 := FZ9.out _ TZ10.out
          simp only at lb8 lp8
          go_simp
          refine hK.out _ _ ?_
          clear hK Kq
          try simp only [Act.put, List.setIfInBounds_toArray, List.set_cons_zero, List.set_cons_succ]
          clear hHeld cb8 cf8 lb8 lp8 fz8
          refine wpAnyZ_done (by kernel_rfl) (NoPanic.normal ?_) _
          obtain ⟨lo3, lo4, lo5⟩ := HL5.out
          have hpb := HPB.out
          have hz8 := Z8.out
          have hz10 : w9.heap.size ≤ w10.heap.size := TZ10.out.size
          have F10b := hid (fun y hy => (⟨F10.out y hy, S10.out.lt y hy⟩ : w9.heap.size ≤ y ∧ y < w10.heap.size))
          have t11 : Tch [pb] w10 (w10.setCell ⟨pb, po + j * 3 + 2, none⟩ (.slice va10 x.arg.length vc10)) := (Tch.refl [pb] w10).setCell (.inl (by simp)) _
          have z11 : (w10.setCell ⟨pb, po + j * 3 + 2, none⟩ (.slice va10 x.arg.length vc10)).heap.size = w10.heap.size := by simp [World.setCell]
          have J11 := (J9.out.gr (((Gr.refl w9).drew).trans G10.out)).put (x' := { x with fv := .slice va8 x.frm.length vc8, av := .slice va10 x.arg.length vc10 }) (u := .slice va10 x.arg.length vc10) (jj := 2) rfl (by have := HNL.out; simp at this ⊢; exact this) (by omega) rfl
          rw [show po + ps.length * 3 + 2 = po + j * 3 + 2 by rw [HJJ.out]] at J11
          have JN := hid (J11.next (h1 := w9.heap.size) ⟨(S9.out.kept TZ10.out (by simp)).kept t11 (fun y hy h3 => by simp at h3; subst h3; have := (F82.out _ hy).1; omega), S10.out.kept t11 (fun y hy h3 => by simp at h3; subst h3; have := (F10b.out _ hy).1; omega)⟩ (fun y hy => by have := F82.out y hy; omega) (fun y hy => by have := F10b.out y hy; rw [z11]; exact this) (by omega) (by rw [z11]; omega))
          have HPN := hid (show ((ps ++ [{ x with fv := .slice va8 x.frm.length vc8, av := .slice va10 x.arg.length vc10 }]).map PhiM.pd) = (B.phis.take (ps.length + 1)).map PhiM.pd by
            obtain ⟨h3, h4⟩ := List.getElem?_eq_some_iff.1 HXX.out
            rw [HJJ.out, List.take_succ_eq_append_getElem h3, List.map_append, List.map_append, HPD.out, HJJ.out, h4]
            rfl)
          have hlen2 : (ps ++ [{ x with fv := .slice va8 x.frm.length vc8, av := .slice va10 x.arg.length vc10 }]).length = ps.length + 1 := by simp
          rw [← hlen2] at JN HPN
          generalize hps2 : ps ++ [{ x with fv := .slice va8 x.frm.length vc8, av := .slice va10 x.arg.length vc10 }] = ps2 at *
          rw [HJJ.out] at hlen2
          have HL2 := hid hlen2
          clear hps2 hlen2 z11 t11 J11 lo3 lo4 lo5 hpb hz8 hz10
          generalize w10.setCell ⟨pb, po + j * 3 + 2, none⟩ (.slice va10 x.arg.length vc10) = w11 at *
          clear KS S9 S10 F10 F10b G10 TZ10 CB9 CF9 FZ9 HC9 K9 J9 F82 Z8 HPB HL5 HNL HXX
          go_wp2_with fail
          go_roundw
          case rel => exact ⟨ps2, _, by rw [HL2.out]; go_num, by rw [HL2.out]; omega, JN.out, HPN.out⟩
          case measure => simp [intOf]; omega
        · have e : ps.length = np := by omega
          have hdn : B.phis.drop ps.length = [] := List.drop_eq_nil_of_le (by rw [HNP.out]; omega)
          have htn : B.phis.take ps.length = B.phis := List.take_of_length_le (by rw [HNP.out]; omega)
          rw [hdn] at HJ
          rw [htn] at HPD
          have CS := hid (CP.step HM.out HD.out HX.out HJ.out HPD.out)
          clear hdn htn
          rw [e]
          clear HJ HPD
          go_wp2_with fail
          go_roundw
          case rel => exact ⟨i + 1, by have := HLT.out; go_num, by have := HLT.out; omega, ⟨_, CS.out⟩⟩
          case measure => have := HLT.out; simp [intOf]; omega
    · obtain rfl : i = k := by omega
      have o1' := ci.g.obj O1.out
      have c1 := cell_of_row wr (w.heap.size + 1) 0 _ _ _ o1'
      simp only [List.getElem?_toArray, List.getElem?_cons_zero] at c1
      have fz : ∀ j, wr.frozen? ⟨w.heap.size + 1, j, none⟩ = false := fun j => frozen_of_row _ _ _ _ _ o1'
      have hl1 := lt_of_obj o1'
      have HSZ := hid hsz
      clear ci o1' hsz
      go_wp2
      (try simp only [Exit.inBlock, Exit.then])
      refine bodyPost_ret (v := .agg #[.slice (some ⟨b, off, none⟩) i c]) (by simp [results, Tryd.results18, go_sem, c1]) rfl ?_
      have ci := CI.out
      have hs0 := HSZ.out
      obtain ⟨lo1, lo2, lo3, lo4, lo5⟩ := ci.low
      have hsl := ci.s
      rw [List.drop_eq_nil_of_le (by rw [HKL.out]; omega), List.append_nil] at hsl
      have hn : i = cl.length := ci.m.symm
      have TT : Tch [w.heap.size + 1] wr (wr.setCell ⟨w.heap.size + 1, 0, none⟩ (.slice (some ⟨b, off, none⟩) i c)) := (Tch.refl _ wr).setCell (.inl (by simp)) _
      have hszT : (wr.setCell ⟨w.heap.size + 1, 0, none⟩ (.slice (some ⟨b, off, none⟩) i c)).heap.size = wr.heap.size := by simp [World.setCell]
      refine ⟨_, cl, rfl, ⟨?_, fun x hx => by simp [blks] at hx; subst hx; omega, ?_⟩, ?_, (GW.out.trans ci.g).setCell (by simp) _⟩
      · have h3 := hsl.kept TT (fun x hx hx2 => by
          have e1 : x = b := by simpa [blks] using hx
          have e2 : x = w.heap.size + 1 := by simpa using hx2
          omega)
        rw [← hn]; exact h3
      · rw [hszT]
        exact (ci.l.kept TT (fun x hx => .inl (by simp at hx; omega))).low (by omega)
      · rw [ci.d, ← HKL.out, List.take_length]
end Go.Proofs.YtkcblhaldahooaaDoor

