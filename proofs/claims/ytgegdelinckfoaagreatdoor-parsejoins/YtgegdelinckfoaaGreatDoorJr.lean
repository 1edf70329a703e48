/- Joined: Pjp, Pjm, Pjw, Pjz. -/
import Derived.Test.YtgegdelinckfoaaGreatDoorJm
import Derived.Test.YtgegdelinckfoaaGreatDoorJp
import Derived.Deep.RegionHeld3
import Derived.Deep.CutRange


/- ParseJoins: two programs' texts, one behind the other: what is told of them. -/
set_option linter.unusedSimpArgs false
set_option linter.unusedVariables false
namespace Go.Proofs.YtgegdelinckfoaaGreatDoor
open Go.RowKit Go.Sort

/-- A block with its labels a thousand up. -/
def upA (b : ABlk) : ABlk := ⟨b.lab + 1000, b.ins, b.e, b.a, if b.e = 0 ∨ b.e = 1 then b.y + 1000 else b.y, if b.e = 1 then b.n + 1000 else b.n⟩
theorem lastE_mono {labs labs' : List Int} {e a y n : Int} (h : lastE labs e a y n = 0) (hs : ∀ l ∈ labs, l ∈ labs') : lastE labs' e a y n = 0 := by
  unfold lastE at h ⊢
  split at h
  · cases h
  split at h
  · cases h
  split at h
  · cases h
  rename_i h1 h2 h3
  rw [if_neg h1, if_neg h2, if_neg h3]
  apply firstE_zeros
  intro x hx
  obtain ⟨l, hl, rfl⟩ := List.mem_map.1 hx
  have := firstE_each h _ (List.mem_map_of_mem hl)
  split at this
  · rename_i hm; rw [if_pos (hs l hm)]
  · cases this
theorem lastE_up {labs labs' : List Int} {b : ABlk} (h : lastE labs b.e b.a b.y b.n = 0) (e0 : 0 ≤ b.e) (hs : ∀ l ∈ labs, l + 1000 ∈ labs') : lastE labs' (upA b).e (upA b).a (upA b).y (upA b).n = 0 := by
  obtain ⟨lab, ins, e, a, y, n⟩ := b
  dsimp only at h e0
  unfold upA
  dsimp only
  unfold lastE at h
  split at h
  · cases h
  split at h
  · cases h
  split at h
  · cases h
  rename_i h1 h2 h3
  simp [lastOnlyB] at h2
  have h3' : regB a = true := by simpa using h3
  have hc : e = 0 ∨ e = 1 ∨ e = 2 ∨ e = 3 := by omega
  rcases hc with rfl | rfl | rfl | rfl <;> simp [llabs, firstE, lonlyA, lonlyY, lonlyN] at h2 h
  · obtain ⟨rfl, rfl⟩ := h2
    have q := hs y (Classical.byContradiction fun c => c (h c))
    simp [lastE, lastOnlyB, lonlyA, lonlyY, lonlyN, llabs, firstE, h3', q]
  · have q : y ∈ labs ∧ n ∈ labs := by
      by_cases hy : y ∈ labs
      · refine ⟨hy, ?_⟩
        by_cases hn : n ∈ labs
        · exact hn
        · split at h
          · rename_i e; exact absurd (e ▸ hy) hn
          · simp [firstE, hy, hn] at h
      · split at h <;> simp [firstE, hy] at h
    have h5 := hs y q.1
    have h6 := hs n q.2
    simp [lastE, lastOnlyB, lonlyA, lonlyY, lonlyN, llabs, firstE, h3']
    split <;> simp [firstE, h5, h6]
  · obtain ⟨rfl, rfl⟩ := h2
    simp [lastE, lastOnlyB, lonlyA, lonlyY, lonlyN, llabs, firstE, h3']
  · obtain ⟨rfl, rfl, rfl⟩ := h2
    simp [lastE, lastOnlyB, lonlyA, lonlyY, lonlyN, llabs, firstE, h3']
theorem labsE_pre : ∀ (l m seen : List Int), (∀ x ∈ l, 0 ≤ x ∧ x < 100000) → l.Nodup → (∀ x ∈ l, ¬ x ∈ seen) → labsE (l ++ m) seen = labsE m (l.reverse ++ seen)
  | [], m, seen, _, _, _ => by simp
  | x :: r, m, seen, h, hn, hs => by
    rw [List.cons_append]
    conv => lhs; unfold labsE
    rw [if_neg (not_not_intro (h x (by simp))), if_neg (hs x (by simp))]
    have hn2 := List.nodup_cons.1 hn
    rw [labsE_pre r m (x :: seen) (fun y hy => h y (by simp [hy])) hn2.2 (fun y hy hm => by
      rcases List.mem_cons.1 hm with e | e
      · subst e; exact hn2.1 hy
      · exact hs y (by simp [hy]) e), List.reverse_cons, List.append_assoc]
    rfl
theorem progA_labs (s : SmlM) : (progA s).map ABlk.lab = progL s := by
  unfold progA progL
  rw [List.map_map]
  apply List.map_congr_left
  intro i _
  exact blkA_lab s i
theorem at_labs (P : List ABlk) : labsOf (P.map fun b => b.at (.slice none 0 0)) = P.map ABlk.lab := by unfold labsOf; rw [List.map_map]; rfl
theorem at_count (P : List ABlk) : countM (P.map fun b => b.at (.slice none 0 0)) = cntA P := by
  unfold countM cntA
  rw [List.map_map]
  congr 1
theorem cntA_le : ∀ {P : List ABlk}, (∀ b ∈ P, b.ins.length ≤ 16) → cntA P ≤ 17 * P.length
  | [], _ => by simp [cntA]
  | b :: r, h => by
    have h1 := h b (by simp)
    have h2 := cntA_le (P := r) (fun x hx => h x (by simp [hx]))
    have h3 : cntA (b :: r) = 1 + b.ins.length + cntA r := by simp [cntA]
    rw [h3, List.length_cons]
    omega
theorem progA_good {s : SmlM} (hl : lightB s = true) : ∀ b ∈ progA s, Good (progL s) b ∧ 0 ≤ b.e := fun b hb => by
  obtain ⟨h8, hL⟩ := light_of hl
  obtain ⟨i, hi, rfl⟩ := List.mem_map.1 hb
  exact ⟨blk_good s h8 hL i (List.mem_range.1 hi), blkA_e s i⟩
theorem progA_n {s : SmlM} (hl : lightB s = true) : 1 ≤ (progA s).length ∧ (progA s).length ≤ 8 := by
  obtain ⟨h8, hL⟩ := light_of hl
  have := len_in s h8
  simp [progA]; omega
theorem progL_100 {s : SmlM} (hl : lightB s = true) {x : Int} (hx : x ∈ progL s) : 0 ≤ x ∧ x < 100 := by
  obtain ⟨h8, hL⟩ := light_of hl
  unfold progL at hx
  obtain ⟨i, hi, rfl⟩ := List.mem_map.1 hx
  have := List.mem_range.1 hi
  have hn := len_in s h8
  exact labV_in (i := i) (by omega)
theorem blkE_at {labs : List Int} {b : ABlk} (hi : ∀ q ∈ b.ins, insE q = 0) (hl : lastE labs b.e b.a b.y b.n = 0) : blkE labs (b.at (.slice none 0 0)) = 0 := by
  unfold blkE
  apply firstE_zeros
  intro x hx
  simp only [ABlk.at, List.map_nil, List.nil_append, List.mem_append, List.mem_map, List.mem_singleton] at hx
  rcases hx with ⟨q, hq, rfl⟩ | rfl
  · exact hi q hq
  · exact hl
/-- Two programs' blocks: a label is there twice. -/
theorem join_twice {s t : SmlM} (hs : lightB s = true) (ht : lightB t = true) : checkA (progA s ++ progA t) = 8 := by
  have n1 := progA_n hs
  have n2 := progA_n ht
  have hc := cntA_le (P := progA s ++ progA t) (fun b hb => by
    rcases List.mem_append.1 hb with h | h
    · exact (progA_good hs b h).1.m
    · exact (progA_good ht b h).1.m)
  rw [List.length_append] at hc
  have hl : labsE ((progA s ++ progA t).map ABlk.lab) [] = 8 := by
    rw [List.map_append, progA_labs, progA_labs, labsE_pre _ _ _ (fun x hx => by have := progL_100 hs hx; omega) (progL_nodup s) (fun x _ => by simp)]
    have h0 : ∀ u : SmlM, ∃ r, progL u = 0 :: r := fun u => by
      have : lenM u = (lenM u - 1) + 1 := by unfold lenM; omega
      unfold progL
      rw [this, List.range_succ_eq_map]
      exact ⟨_, rfl⟩
    obtain ⟨r1, e1⟩ := h0 s
    obtain ⟨r2, e2⟩ := h0 t
    rw [e1, e2]
    unfold labsE
    rw [if_neg (by omega), if_pos (by simp)]
  unfold checkA checkE
  rw [at_labs, at_count, List.length_map, List.length_append, if_neg (by omega), if_neg (by omega), if_pos (by rw [hl]; decide), hl]
theorem join_up {s t : SmlM} (hs : lightB s = true) (ht : lightB t = true) : checkA (progA s ++ (progA t).map upA) = 0 := by
  have n1 := progA_n hs
  have n2 := progA_n ht
  have hup : ∀ b, (upA b).ins = b.ins := fun _ => rfl
  have hc := cntA_le (P := progA s ++ (progA t).map upA) (fun b hb => by
    rcases List.mem_append.1 hb with h | h
    · exact (progA_good hs b h).1.m
    · obtain ⟨c, hc, rfl⟩ := List.mem_map.1 h
      exact (progA_good ht c hc).1.m)
  rw [List.length_append, List.length_map] at hc
  have el : (progA s ++ (progA t).map upA).map ABlk.lab = progL s ++ (progL t).map (· + 1000) := by
    rw [List.map_append, progA_labs, List.map_map, ← progA_labs t, List.map_map]; rfl
  have hl : labsE (progL s ++ (progL t).map (· + 1000)) [] = 0 := by
    refine labsE_ok _ _ (fun x hx => ?_) ?_ (fun x _ => by simp)
    · rcases List.mem_append.1 hx with h | h
      · have := progL_100 hs h; omega
      · obtain ⟨y, hy, rfl⟩ := List.mem_map.1 h
        have := progL_100 ht hy; omega
    · refine List.nodup_append.2 ⟨progL_nodup s, ?_, fun a ha b hb e => ?_⟩
      · exact List.pairwise_map.2 (List.Pairwise.imp (fun h e => h (by omega)) (progL_nodup t))
      · obtain ⟨y, hy, rfl⟩ := List.mem_map.1 hb
        have := progL_100 hs ha
        have := progL_100 ht hy
        omega
  unfold checkA checkE
  rw [at_labs, at_count, List.length_map, List.length_append, List.length_map, if_neg (by omega), if_neg (by omega), el, if_neg (by rw [hl]; simp)]
  apply firstE_zeros
  intro x hx
  rw [List.map_map] at hx
  obtain ⟨b, hb, rfl⟩ := List.mem_map.1 hx
  show blkE _ (b.at (.slice none 0 0)) = 0
  rcases List.mem_append.1 hb with h | h
  · have G := progA_good hs b h
    exact blkE_at (fun q hq => (G.1.i q hq).1) (lastE_mono G.1.l (fun l hl => by simp [hl]))
  · obtain ⟨c, hc, rfl⟩ := List.mem_map.1 h
    have G := progA_good ht c hc
    exact blkE_at (fun q hq => (G.1.i q hq).1) (lastE_up G.1.l G.2 (fun l hl => List.mem_append_right _ (List.mem_map.2 ⟨l, hl, rfl⟩)))
theorem upA_p {t : SmlM} (ht : lightB t = true) (hw : LinsWf t) : ∀ b ∈ (progA t).map upA, BlkP' b := fun b hb => by
  obtain ⟨c, hc, rfl⟩ := List.mem_map.1 hb
  have G := progA_good ht c hc
  have h := progA_p ht hw c hc
  have hlab : c.lab ∈ progL t := by rw [← progA_labs]; exact List.mem_map_of_mem hc
  have hl := progL_100 ht hlab
  have hv := lastV_of (labs := (progL t).map (· + 1000)) (lastE_up G.1.l G.2 (fun l hl => List.mem_map.2 ⟨l, hl, rfl⟩)) (show 0 ≤ (upA c).e from G.2) (fun x hx => by
    obtain ⟨y, hy, rfl⟩ := List.mem_map.1 hx
    have := progL_100 ht hy; omega)
  exact ⟨by show 0 ≤ c.lab + 1000 ∧ c.lab + 1000 < 100000; omega, h.i, hv.1, hv.2⟩
theorem text_chk {P : List ABlk} (hP : ∀ b ∈ P, BlkP' b) (hc : checkA P ≠ 0) (hl : (txT (txP P)).length ≤ 100000) : parseR (bytesOf (txT (txP P))) = ([], ((bytesOf (txT (txP P))).size : Int), checkA P) := by
  obtain ⟨ts, e1, z1, t1⟩ := rdk_ts (rd_prog hP)
  have kt : Tks ts := by rw [← e1]; exact tks_evT 0 _
  obtain ⟨s1, h1, h2⟩ := progD_at kt false (fun b hb => (hP b hb).v) (by rw [t1, tkP_false]; exact Spr.refl _)
  rw [parseR_er hl e1 z1, h1]
  dsimp only
  rw [if_neg (by simpa using h2), if_pos hc]
theorem txP_app (P Q : List ABlk) : txP (P ++ Q) = txP P ++ txP Q := by simp [txP]
theorem up_len {t : SmlM} (ht : lightB t = true) : (txP ((progA t).map upA)).length ≤ 976 := by
  have n2 := progA_n ht
  have h1 := txP_len (P := (progA t).map upA) (fun b hb => by
    obtain ⟨c, hc, rfl⟩ := List.mem_map.1 hb
    exact (progA_good ht c hc).1.m)
  rw [List.length_map] at h1
  omega
/-- **ParseJoins' texts.** -/
structure JnT (s t : SmlM) : Prop where
  a : (txT (txP (progA s))).length ≤ 30000
  b : (txT (txP (progA t))).length ≤ 30000
  c : (txT (txP ((progA t).map upA))).length ≤ 30000
  p : ∀ b ∈ progA s, BlkP' b
  q : ∀ b ∈ progA t, BlkP' b
  u : ∀ b ∈ (progA t).map upA, BlkP' b
  tw : parseR (bytesOf (txT (txP (progA s))) ++ bytesOf (txT (txP (progA t)))) = ([], ((bytesOf (txT (txP (progA s))) ++ bytesOf (txT (txP (progA t)))).size : Int), 8)
  up : parseR (bytesOf (txT (txP (progA s))) ++ bytesOf (txT (txP ((progA t).map upA)))) = (progA s ++ (progA t).map upA, 0, 0)
theorem jnT {s t : SmlM} (hs : lightB s = true) (ht : lightB t = true) (ws : LinsWf s) (wt : LinsWf t) : JnT s t := by
  have P := progA_p hs ws
  have Q := progA_p ht wt
  have U := upA_p ht wt
  have l1 := txT_len (txP_tok (fun b hb => blk_64 (P b hb)))
  have l2 := txT_len (txP_tok (fun b hb => blk_64 (Q b hb)))
  have l3 := txT_len (txP_tok (fun b hb => blk_64 (U b hb)))
  have n1 := progA_len hs
  have n2 := progA_len ht
  have n3 := up_len ht
  have hPQ : ∀ b ∈ progA s ++ progA t, BlkP' b := fun b hb => (List.mem_append.1 hb).elim (P b) (Q b)
  have hPU : ∀ b ∈ progA s ++ (progA t).map upA, BlkP' b := fun b hb => (List.mem_append.1 hb).elim (P b) (U b)
  have e1 : txT (txP (progA s ++ progA t)) = txT (txP (progA s)) ++ txT (txP (progA t)) := by rw [txP_app, txT_app]
  have e2 : txT (txP (progA s ++ (progA t).map upA)) = txT (txP (progA s)) ++ txT (txP ((progA t).map upA)) := by rw [txP_app, txT_app]
  refine ⟨by omega, by omega, by omega, P, Q, U, ?_, ?_⟩
  · rw [bytes_app, ← e1]
    have h := text_chk hPQ (by rw [join_twice hs ht]; decide) (by rw [e1, List.length_append]; omega)
    rw [join_twice hs ht] at h
    exact h
  · rw [bytes_app, ← e2]
    exact text_reads hPU (join_up hs ht) (by rw [e2, List.length_append]; omega)
end Go.Proofs.YtgegdelinckfoaaGreatDoor


/- ParseJoins: what its walk keeps of two programs of the call's own. -/
set_option linter.unusedSimpArgs false
set_option linter.unusedVariables false
namespace Go.Proofs.YtgegdelinckfoaaGreatDoor
open Go.RowKit Go.Sort

/-- A program without phis, its blocks as said. -/
structure Pl (w : World) (v : Value) (bs : List BlkM) (al : List ABlk) : Prop where
  ok : Plp w v bs
  m : bs.map BlkM.ab = al
/-- The block k is none of the program's. -/
def Off (k : Nat) (v : Value) (bs : List BlkM) : Prop := ¬ k ∈ blks v ∧ ∀ B ∈ bs, ¬ k ∈ blks B.iv
theorem Pl.tch {w w' : World} {v : Value} {bs : List BlkM} {al : List ABlk} {S : List Nat} (h : Pl w v bs al) (t : Tch S w w') (ho : ∀ k ∈ S, Off k v bs) : Pl w' v bs al :=
  ⟨⟨h.ok.b.kept t (fun x hx hm => (ho x hm).1 hx), h.ok.p, fun B hB => (h.ok.i B hB).kept t (fun x hx hm => (ho x hm).2 B hB hx), h.ok.n⟩, h.m⟩
theorem Pl.t0 {w w' : World} {v : Value} {bs : List BlkM} {al : List ABlk} (h : Pl w v bs al) (t : Tch [] w w') : Pl w' v bs al := h.tch t (by simp)
theorem Pl.gr {w w' : World} {v : Value} {bs : List BlkM} {al : List ABlk} (h : Pl w v bs al) (g : Gr w w') : Pl w' v bs al := h.t0 g.tch
theorem Pl.set {w : World} {v : Value} {bs : List BlkM} {al : List ABlk} {k : Nat} (h : Pl w v bs al) (ho : Off k v bs) (j : Nat) (u : Value) : Pl (w.setCell ⟨k, j, none⟩ u) v bs al :=
  h.tch ((Tch.refl [k] w).setCell (.inl (by simp)) _) (fun x hx => by simp at hx; subst hx; exact ho)
theorem own_pl {w0 w : World} {v : Value} {bp : Nat} {bs : List BlkM} {al : List ABlk} (h : Own w0 w v bp bs) (hm : bs.map BlkM.ab = al) : Pl w v bs al := ⟨h.plp, hm⟩
theorem own_off {w0 w : World} {v : Value} {bp : Nat} {bs : List BlkM} (h : Own w0 w v bp bs) : ∀ k, (k < w0.heap.size ∨ w.heap.size ≤ k) → Off k v bs := fun k hk =>
  ⟨fun hx => by have := (h.o k hx).1; have := h.b.lt k hx; omega, fun B hB hx => by have := (h.q B hB k hx).1; have := (h.i B hB).lt k hx; omega⟩
theorem Pl.off {w : World} {v : Value} {bs : List BlkM} {al : List ABlk} (h : Pl w v bs al) : ∀ k, w.heap.size ≤ k → Off k v bs := fun k hk =>
  ⟨fun hx => by have := h.ok.b.lt k hx; omega, fun B hB hx => by have := (h.ok.i B hB).lt k hx; omega⟩
/-- Two programs, and where they lie. -/
structure Jn5 (w w' : World) (pb qb : Nat) (v1 v2 : Value) (bs cs : List BlkM) (a b : List ABlk) : Prop where
  g : Gr w w'
  p : Pl w' v1 bs a
  q : Pl w' v2 cs b
  cp : w'.cell? ⟨pb, 0, none⟩ = some v1
  cq : w'.cell? ⟨qb, 0, none⟩ = some v2
  s : ∀ k ∈ blks v2, Off k v1 bs ∧ w.heap.size ≤ k ∧ ¬ k = pb ∧ ¬ k = qb ∧ ∀ B ∈ cs, ¬ k ∈ blks B.iv
  r : ∀ k ∈ blks v1, Off k v2 cs ∧ (w.heap.size ≤ k ∧ ∀ B ∈ bs, ¬ k ∈ blks B.iv) ∧ ¬ k = pb ∧ ¬ k = qb
/-- A block with its labels a thousand up. -/
def upM (B : BlkM) : BlkM := { B with lab := B.lab + 1000, y := if B.e = 0 ∨ B.e = 1 then B.y + 1000 else B.y, n := if B.e = 1 then B.n + 1000 else B.n }
theorem upM_ab (B : BlkM) : (upM B).ab = upA B.ab := rfl
theorem upM_cells (B : BlkM) : (upM B).cells = [.int .i64 (B.lab + 1000), B.pv, B.iv, .int .u8 B.e, .int .i64 B.a, .int .i64 (if B.e = 0 ∨ B.e = 1 then B.y + 1000 else B.y), .int .i64 (if B.e = 1 then B.n + 1000 else B.n)] := rfl
theorem blkC_set : ∀ {l : List BlkM} {i f : Nat} {X X' : BlkM} {u : Value}, l[i]? = some X → f < 7 → X'.cells = X.cells.set f u → (blkC l).set (i * 7 + f) u = blkC (l.set i X')
  | [], i, f, X, X', u, h, _, _ => by simp at h
  | x :: r, 0, f, X, X', u, h, hf, hx => by
    simp at h
    subst h
    show (x.cells ++ blkC r).set (0 * 7 + f) u = X'.cells ++ blkC r
    rw [hx, Nat.zero_mul, Nat.zero_add, List.set_append_left _ _ (by show f < 7; exact hf)]
  | x :: r, i + 1, f, X, X', u, h, hf, hx => by
    show (x.cells ++ blkC r).set ((i + 1) * 7 + f) u = x.cells ++ blkC (r.set i X')
    have hl : x.cells.length = 7 := rfl
    rw [List.set_append_right _ _ (by rw [hl]; omega), hl, show (i + 1) * 7 + f - 7 = i * 7 + f by omega, blkC_set (by simpa using h) hf hx]
theorem Sl.setc {w : World} {e : TypeId} {sz n b off m c : Nat} {cs : List Value} (h : Sl w e sz (.slice (some ⟨b, off, none⟩) m c) n cs) (j : Nat) (u : Value) (hj : j < cs.length) : Sl (w.setCell ⟨b, off + j, none⟩ u) e sz (.slice (some ⟨b, off, none⟩) m c) n (cs.set j u) := by
  obtain ⟨h0, ⟨h1, _⟩ | ⟨b', off', cap', cur, e1, h1, h2, h3, h4, h5⟩⟩ := h
  · cases h1
  · cases e1
    have hc := cells_set (j := off + j) h1 (u := u) rfl
    refine ⟨by rw [List.length_set]; exact h0, .inr ⟨b, off, _, _, rfl, hc, h2, h3, by simpa using h4, fun k hk => ?_⟩⟩
    rw [List.length_set] at hk
    have h6 := h5 k hk
    rw [Array.getElem?_setIfInBounds]
    by_cases e : off + j = off + k
    · have e2 : j = k := by omega
      subst e2
      have hs : off + j < cur.size := by
        have : n * sz ≤ c * sz := Nat.mul_le_mul_right _ h2
        omega
      rw [if_pos rfl, if_pos hs, List.getElem?_set_self hk]
    · rw [if_neg e, h6, List.getElem?_set_ne (by omega)]
/-- The loop: of the first k blocks of the second program the labels are a thousand up. -/
def upTo (k : Nat) (cs : List BlkM) : List BlkM := (cs.take k).map upM ++ cs.drop k
theorem upTo_get {k : Nat} {cs : List BlkM} {X : BlkM} (h : cs[k]? = some X) : (upTo k cs)[k]? = some X := by
  have hk : k < cs.length := (List.getElem?_eq_some_iff.1 h).1
  unfold upTo
  rw [List.getElem?_append_right (by simp; omega)]
  simp only [List.length_map, List.length_take, Nat.min_eq_left (Nat.le_of_lt hk), Nat.sub_self]
  rw [List.getElem?_drop]
  simpa using h
theorem upTo_len (k : Nat) (cs : List BlkM) : (upTo k cs).length = cs.length := by
  unfold upTo
  simp only [List.length_append, List.length_map, List.length_take, List.length_drop]
  omega
theorem upTo_next {k : Nat} {cs : List BlkM} {X : BlkM} (h : cs[k]? = some X) : (upTo k cs).set k (upM X) = upTo (k + 1) cs := by
  obtain ⟨hk, rfl⟩ := List.getElem?_eq_some_iff.1 h
  unfold upTo
  rw [List.set_append_right _ _ (by simp; omega)]
  simp only [List.length_map, List.length_take, Nat.min_eq_left (Nat.le_of_lt hk), Nat.sub_self]
  rw [List.drop_eq_getElem_cons hk, List.set_cons_zero, List.take_succ_eq_append_getElem hk, List.map_append, List.append_assoc]
  rfl
structure JnL (w : World) (pb qb : Nat) (v1 v2 : Value) (bs cs : List BlkM) (a : List ABlk) (k : Nat) (wr : World) : Prop where
  t : Tch [] w wr
  p : Pl wr v1 bs a
  b : Sl wr 52 7 v2 cs.length (blkC (upTo k cs))
  i : ∀ B ∈ cs, Sl wr 62 7 B.iv B.ins.length (insC B.ins)
  cp : wr.cell? ⟨pb, 0, none⟩ = some v1
  cq : wr.cell? ⟨qb, 0, none⟩ = some v2
theorem Jn5.loop {w w' : World} {pb qb : Nat} {v1 v2 : Value} {bs cs : List BlkM} {a b : List ABlk} (h : Jn5 w w' pb qb v1 v2 bs cs a b) : JnL w pb qb v1 v2 bs cs a 0 w' :=
  ⟨h.g.tch, h.p, by show Sl w' 52 7 v2 cs.length (blkC (([] : List BlkM) ++ cs.drop 0)); rw [List.drop_zero]; exact h.q.ok.b, h.q.ok.i, h.cp, h.cq⟩
theorem JnL.t0 {w : World} {pb qb : Nat} {v1 v2 : Value} {bs cs : List BlkM} {a : List ABlk} {k : Nat} {wr wq : World} (h : JnL w pb qb v1 v2 bs cs a k wr) (t : Tch [] wr wq) : JnL w pb qb v1 v2 bs cs a k wq :=
  ⟨h.t.trans t, h.p.t0 t, h.b.kept t (by simp), fun B hB => (h.i B hB).kept t (by simp), t.cellk h.cp, t.cellk h.cq⟩
/-- One block is turned. -/
theorem JnL.step {w w5 : World} {pb qb : Nat} {v1 : Value} {b2 o2 m2 c2 : Nat} {bs cs : List BlkM} {a b : List ABlk} {k : Nat} {wr : World} (S : Jn5 w w5 pb qb v1 (.slice (some ⟨b2, o2, none⟩) m2 c2) bs cs a b) (h : JnL w pb qb v1 (.slice (some ⟨b2, o2, none⟩) m2 c2) bs cs a k wr) {X : BlkM} (hX : cs[k]? = some X) {wq : World} (t : Tch [b2] wr wq)
    (hb : Sl wq 52 7 (.slice (some ⟨b2, o2, none⟩) m2 c2) cs.length (blkC (upTo (k + 1) cs))) : JnL w pb qb v1 (.slice (some ⟨b2, o2, none⟩) m2 c2) bs cs a (k + 1) wq := by
  obtain ⟨s1, s2, s3, s4, s5⟩ := S.s b2 (by simp [blks])
  have key : ∀ {p : Addr} {u : Value}, ¬ p.block = b2 → wr.cell? p = some u → wq.cell? p = some u := fun {p u} hn hc => by
    unfold World.cell? at hc ⊢
    rw [t.block p.block (cell_lt (by unfold World.cell?; exact hc)) (by simpa using hn)]
    exact hc
  exact ⟨h.t.trans2 t (fun x hx => by simp at hx; subst hx; exact .inr s2), h.p.tch t (fun x hx => by simp at hx; subst hx; exact s1), hb, fun B hB => (h.i B hB).kept t (fun x hx hm => by simp at hm; subst hm; exact s5 B hB hx), key (p := ⟨pb, 0, none⟩) (fun e => s3 e.symm) h.cp, key (p := ⟨qb, 0, none⟩) (fun e => s4 e.symm) h.cq⟩
/-- Behind the loop. -/
theorem JnL.done {w w5 : World} {pb qb : Nat} {v1 v2 : Value} {bs cs : List BlkM} {a b : List ABlk} {wr : World} (S : Jn5 w w5 pb qb v1 v2 bs cs a b) (h : JnL w pb qb v1 v2 bs cs a cs.length wr) : Pl wr v2 (cs.map upM) (b.map upA) := by
  have e : upTo cs.length cs = cs.map upM := by unfold upTo; simp
  refine ⟨⟨by rw [List.length_map, ← e]; exact h.b, fun B hB => ?_, fun B hB => ?_, fun B hB => ?_⟩, ?_⟩
  · obtain ⟨C, hC, rfl⟩ := List.mem_map.1 hB
    exact S.q.ok.p C hC
  · obtain ⟨C, hC, rfl⟩ := List.mem_map.1 hB
    exact h.i C hC
  · obtain ⟨C, hC, rfl⟩ := List.mem_map.1 hB
    exact S.q.ok.n C hC
  · rw [← S.q.m, List.map_map, List.map_map]
    rfl
theorem Tch.cellS {S : List Nat} {w w' : World} (t : Tch S w w') {p : Addr} {u : Value} (hc : w.cell? p = some u) (hn : ¬ p.block ∈ S) : w'.cell? p = some u := by
  unfold World.cell? at hc ⊢
  rw [t.block p.block (cell_lt (by unfold World.cell?; exact hc)) hn]
  exact hc
/-- What the loop stores. -/
theorem up_store {wr : World} {b o m c n : Nat} {l : List BlkM} {k : Nat} {X : BlkM} (h : Sl wr 52 7 (.slice (some ⟨b, o, none⟩) m c) n (blkC l)) (hX : l[k]? = some X) :
    (¬ X.e = 0 → ¬ X.e = 1 → Sl (wr.setCell ⟨b, o + k * 7, none⟩ (.int .i64 (X.lab + 1000))) 52 7 (.slice (some ⟨b, o, none⟩) m c) n (blkC (l.set k (upM X)))) ∧
    (X.e = 0 → Sl ((wr.setCell ⟨b, o + k * 7, none⟩ (.int .i64 (X.lab + 1000))).setCell ⟨b, o + k * 7 + 5, none⟩ (.int .i64 (X.y + 1000))) 52 7 (.slice (some ⟨b, o, none⟩) m c) n (blkC (l.set k (upM X)))) ∧
    (X.e = 1 → Sl (((wr.setCell ⟨b, o + k * 7, none⟩ (.int .i64 (X.lab + 1000))).setCell ⟨b, o + k * 7 + 5, none⟩ (.int .i64 (X.y + 1000))).setCell ⟨b, o + k * 7 + 6, none⟩ (.int .i64 (X.n + 1000))) 52 7 (.slice (some ⟨b, o, none⟩) m c) n (blkC (l.set k (upM X)))) := by
  have hk : k < l.length := (List.getElem?_eq_some_iff.1 hX).1
  have hlen : (blkC l).length = l.length * 7 := flatMap_len (f := BlkM.cells) (sz := 7) (fun _ => rfl) l
  have h1 := h.setc (k * 7 + 0) (.int .i64 (X.lab + 1000)) (by omega)
  rw [blkC_set (X' := { X with lab := X.lab + 1000 }) hX (by omega) rfl] at h1
  have g1 : (l.set k { X with lab := X.lab + 1000 })[k]? = some { X with lab := X.lab + 1000 } := List.getElem?_set_self hk
  have hl1 : (blkC (l.set k { X with lab := X.lab + 1000 })).length = l.length * 7 := by unfold blkC; rw [flatMap_len (f := BlkM.cells) (sz := 7) (fun _ => rfl), List.length_set]
  have h2 := h1.setc (k * 7 + 5) (.int .i64 (X.y + 1000)) (by rw [hl1]; omega)
  rw [blkC_set (X' := { X with lab := X.lab + 1000, y := X.y + 1000 }) g1 (by omega) rfl, List.set_set] at h2
  have g2 : (l.set k { X with lab := X.lab + 1000, y := X.y + 1000 })[k]? = some { X with lab := X.lab + 1000, y := X.y + 1000 } := List.getElem?_set_self hk
  have hl2 : (blkC (l.set k { X with lab := X.lab + 1000, y := X.y + 1000 })).length = l.length * 7 := by unfold blkC; rw [flatMap_len (f := BlkM.cells) (sz := 7) (fun _ => rfl), List.length_set]
  have h3 := h2.setc (k * 7 + 6) (.int .i64 (X.n + 1000)) (by rw [hl2]; omega)
  rw [blkC_set (X' := { X with lab := X.lab + 1000, y := X.y + 1000, n := X.n + 1000 }) g2 (by omega) rfl, List.set_set] at h3
  refine ⟨fun e0 e1 => ?_, fun e0 => ?_, fun e1 => ?_⟩
  · rw [show upM X = { X with lab := X.lab + 1000 } by unfold upM; rw [if_neg (by omega), if_neg e1]]
    exact h1
  · rw [show upM X = { X with lab := X.lab + 1000, y := X.y + 1000 } by unfold upM; rw [if_pos (.inl e0), if_neg (by omega)]]
    exact h2
  · rw [show upM X = { X with lab := X.lab + 1000, y := X.y + 1000, n := X.n + 1000 } by unfold upM; rw [if_pos (.inr e1), if_pos e1]]
    exact h3
theorem blkC_1c (bs : List BlkM) (hp : ∀ B ∈ bs, B.pv.oneCell' = true ∧ B.iv.oneCell' = true) : ∀ u ∈ blkC bs, u.oneCell' = true := fun u hu => by
  obtain ⟨B, hB, hu⟩ := List.mem_flatMap.1 hu
  have h := hp B hB
  simp only [BlkM.cells, List.mem_cons, List.not_mem_nil, or_false] at hu
  rcases hu with rfl | rfl | rfl | rfl | rfl | rfl | rfl
  · rfl
  · exact h.1
  · exact h.2
  · rfl
  · rfl
  · rfl
  · rfl
theorem Plp.one {w : World} {v : Value} {bs : List BlkM} (h : Plp w v bs) : ∀ u ∈ blkC bs, u.oneCell' = true := blkC_1c bs fun B hB => by
  rw [(h.p B hB).1]
  obtain ⟨a, c, e⟩ := (h.i B hB).shape
  rw [e]
  exact ⟨rfl, rfl⟩
theorem txT_ge : ∀ (l : List (List UInt8)), l.length ≤ (txT l).length
  | [] => by simp [txT]
  | x :: r => by
    have := txT_ge r
    rw [txT_cons, List.length_append, List.length_append, List.length_cons]
    simp only [List.length_cons, List.length_nil]
    omega
theorem blkC_len (l : List BlkM) : (blkC l).length = l.length * 7 := flatMap_len (f := BlkM.cells) (sz := 7) (fun _ => rfl) l
theorem Pl.news {w : World} {b off m c : Nat} {bs : List BlkM} {al : List ABlk} (h : Pl w (.slice (some ⟨b, off, none⟩) m c) bs al) : ∀ j u, (blkC bs)[j]? = some u → w.cell? ((⟨b, off, none⟩ : Addr).add j) = some u := fun j u hj => by
  rw [Addr.add_lit]
  exact h.ok.b.cell.2.1 j u hj
theorem Plp.tchS {w w' w'' : World} {v v1 : Value} {bs : List BlkM} {n : Nat} (h : Plp w v bs) (t : Tch [] w w') (t2 : Tch (blks v1) w' w'') (h0 : ∀ k ∈ blks v1, k < n) (h1 : ∀ k ∈ blks v, n ≤ k) (h2 : ∀ B ∈ bs, ∀ k ∈ blks B.iv, n ≤ k) : Plp w'' v bs := by
  have p := h.tch t
  exact ⟨p.b.kept t2 (fun x hx hm => by have := h0 x hm; have := h1 x hx; omega), p.p, fun B hB => (p.i B hB).kept t2 (fun x hx hm => by have := h0 x hm; have := h2 B hB x hx; omega), p.n⟩
theorem blkC_app (a b : List BlkM) : blkC (a ++ b) = blkC a ++ blkC b := by simp [blkC]
/-- Both programs' blocks, one behind the other. -/
theorem both_plp {w w' : World} {v1 v2 v' : Value} {bs cs : List BlkM} {a b : List ABlk} (p : Pl w v1 bs a) (q : Pl w v2 cs b) (hq : ∀ k ∈ blks v1, Off k v2 cs ∧ ∀ B ∈ bs, ¬ k ∈ blks B.iv) (t : Tch (blks v1) w w')
    (hs : Sl w' 52 7 v' (bs.length + cs.length) (blkC bs ++ blkC cs)) : Plp w' v' (bs ++ cs) := by
  refine ⟨by rw [List.length_append, blkC_app]; exact hs, fun B hB => ?_, fun B hB => ?_, fun B hB => ?_⟩
  · exact (List.mem_append.1 hB).elim (p.ok.p B) (q.ok.p B)
  · rcases List.mem_append.1 hB with h | h
    · exact (p.ok.i B h).kept t (fun x hx hm => (hq x hm).2 B h hx)
    · exact (q.ok.i B h).kept t (fun x hx hm => (hq x hm).1.2 B h hx)
  · exact (List.mem_append.1 hB).elim (p.ok.n B) (q.ok.n B)
end Go.Proofs.YtgegdelinckfoaaGreatDoor


/- ParseJoins: the walk. -/
set_option linter.unusedSimpArgs false
set_option linter.unusedVariables false
namespace Go.Proofs.YtgegdelinckfoaaGreatDoor
open Go.RowKit Go.Sort

section
variable {P : Program}
/-- append inside a region that draws its order, behind a test. -/
theorem step_append_tg {ops : Array Oper} {o : Oper} {a : Act} {w : World} {K : Act → World → Prop} {Q : Exit → Act → World → Prop} {E : Prop} (hgd : Region.wanted o (yielded ops a.tmps) = true) (s x : Operand) (t : TypeId)
    (ho : o.op = .call { callee := .builtin .append, args := #[s, x], argTypes := #[t, t] }) {e : TypeId} {z : Value} {sz bytes : Nat} (ht : P.underlying t = some (.slice e)) (hinfo : (P.info? e).map (fun i => (i.zero, i.size, i.bytes)) = some (some z, sz, bytes)) (hz : z.cells.size = sz) (hb : 0 < bytes)
    (v : Value) {n : Nat} {cs : List Value} (hs : a.eval s = v) (h : Sl w e sz v n cs) (ad : Addr) (m c : Nat) (hx : a.eval x = .slice (some ad) m c) (news : List Value) (hl : news.length = m * sz) (hnews : ∀ j u, news[j]? = some u → w.cell? (ad.add j) = some u) (h1 : ∀ u ∈ news, u.oneCell' = true)
    (hbig : (n + m) * bytes ≤ 140737488355328)
    (hK : ∀ v' w', Sl w' e sz v' (n + m) (cs ++ news) → Tch (blks v) w w' → w.drawn ≤ w'.drawn → (∀ b ∈ blks v', b ∈ blks v ∨ w.heap.size ≤ b) → K (a.put o.dst v') w') : if Region.wanted o (yielded ops a.tmps) = true then Oper.wp P o a w K Q else E := by
  rw [if_pos hgd]
  obtain ⟨v', w', p1, p2, p3, p4, p5⟩ := sl_append_t w ht hinfo hz hb h ad m c news hl hnews h1 hbig o.type
  exact Lib.wp_append_run w s x t t ho _ _ hs hx _ _ p1 (hK v' w' p2 p3 p4 p5)
end
set_option maxRecDepth 100000 in
set_option maxHeartbeats 16000000 in
theorem joins_both (s t : SmlM) (w : World) (hE : Env w) (hK : Kinds w) (hW : WordsH w) (hs : SmlOk w s) (ht : SmlOk w t) (hls : lightB s = true) (hlt : lightB t = true) :
    Calls Tryz.prog 6 #[.agg #[.int .u8 s.r, .bool s.bare, s.bv], .agg #[.int .u8 t.r, .bool t.bare, t.bv]] w fun r w' => r = .returned (.bool true) ∧ Tch [] w w' := by
  have hm : Tryz.prog.follows .mixedOrders = true := by kernel_rfl
  have JT := hid (jnT hls hlt hs.lins ht.lins)
  have HLS := hid (fun W (h : SmlOk W s) => light_any s W h)
  have HLT := hid (fun W (h : SmlOk W t) => light_any t W h)
  have HPS0 := hid (fun W (hk : Kinds W) (h : SmlOk W s) => program_any s W hk h hls)
  have HPT0 := hid (fun W (hk : Kinds W) (h : SmlOk W t) => program_any t W hk h hlt)
  have HNS := hid (progA_n hls)
  have HNT := hid (progA_n hlt)
  rw [hls] at HLS
  rw [hlt] at HLT
  obtain ⟨va, vc, hbv, _⟩ := hs.b.shape
  obtain ⟨ta, tc, htv, _⟩ := ht.b.shape
  rw [hbv] at HLS HPS0 ⊢
  rw [htv] at HLT HPT0 ⊢
  have HE := hid hE
  have HK := hid hK
  have HW := hid hW
  have HS := hid hs
  have HTT0 := hid ht
  have T0 := hid (((Tch.refl [] w).alloc (.cells #[.int .u8 s.r, .bool s.bare, .slice va s.bs.length vc] 24)).alloc (.cells #[.int .u8 t.r, .bool t.bare, .slice ta t.bs.length tc] 24))
  have o1 := ((Tch.refl [] (w.alloc (.cells #[.int .u8 s.r, .bool s.bare, .slice va s.bs.length vc] 24))).alloc (.cells #[.int .u8 t.r, .bool t.bare, .slice ta t.bs.length tc] 24)).obj (heap_alloc_new w (.cells #[.int .u8 s.r, .bool s.bare, .slice va s.bs.length vc] 24)) (by simp)
  have o2 := heap_alloc_new (w.alloc (.cells #[.int .u8 s.r, .bool s.bare, .slice va s.bs.length vc] 24)) (.cells #[.int .u8 t.r, .bool t.bare, .slice ta t.bs.length tc] 24)
  simp only [World.size_alloc] at o2
  have O1 := hid o1
  have O2 := hid o2
  clear hE hK hW hs ht hbv htv o1 o2 hls hlt
  go_enter Tryz.func6, Tryz.ntmps6
  go_wp2_with fail
  refine (awake_p _ (HE.out.below (T0.out.below (Nat.le_refl _) (by simp))) (HK.out.tch T0.out) (HW.out.tch T0.out (by simp))).mono ?_
  rintro e w1 ⟨rfl, t1⟩
  dsimp only
  have c0 := cell_of_row _ _ 0 _ _ _ (t1.obj O1.out (by simp))
  have c1 := cell_of_row _ _ 1 _ _ _ (t1.obj O1.out (by simp))
  have c2 := cell_of_row _ _ 2 _ _ _ (t1.obj O1.out (by simp))
  have d0 := cell_of_row _ _ 0 _ _ _ (t1.obj O2.out (by simp))
  have d1 := cell_of_row _ _ 1 _ _ _ (t1.obj O2.out (by simp))
  have d2 := cell_of_row _ _ 2 _ _ _ (t1.obj O2.out (by simp))
  simp only [List.getElem?_toArray, List.getElem?_cons_zero, List.getElem?_cons_succ] at c0 c1 c2 d0 d1 d2
  have T1 := hid (T0.out.trans t1)
  have lc := cell_lt c0
  have ld := cell_lt d0
  simp only at lc ld
  clear t1 T0 O1 O2
  go_wp2_with fail
  refine (HLS.out _ (HS.out.tch T1.out)).mono ?_
  rintro e w2 ⟨rfl, g2⟩
  dsimp only
  replace c0 := g2.val c0
  replace c1 := g2.val c1
  replace c2 := g2.val c2
  replace d0 := g2.val d0
  replace d1 := g2.val d1
  replace d2 := g2.val d2
  have T2 := hid (T1.out.trans g2.tch)
  replace lc := cell_lt c0
  replace ld := cell_lt d0
  simp only at lc ld
  clear g2 T1 HLS
  go_wp2_with fail
  refine (HLT.out _ (HTT0.out.tch T2.out)).mono ?_
  rintro e w3 ⟨rfl, g3⟩
  dsimp only
  replace c0 := g3.val c0
  replace c1 := g3.val c1
  replace c2 := g3.val c2
  replace d0 := g3.val d0
  replace d1 := g3.val d1
  replace d2 := g3.val d2
  have T3 := hid (T2.out.trans g3.tch)
  replace lc := cell_lt c0
  replace ld := cell_lt d0
  simp only at lc ld
  clear g3 T2 HLT
  have HPS := hid (fun W (g : Gr w3 W) => HPS0.out W (HK.out.tch (T3.out.trans g.tch)) (HS.out.tch (T3.out.trans g.tch)))
  have HPT := hid (fun W (g : Gr w3 W) => HPT0.out W (HK.out.tch (T3.out.trans g.tch)) (HTT0.out.tch (T3.out.trans g.tch)))
  clear HPS0 HPT0
  go_upto_region 5 with fail
  go_cut [5, 6] from 27 to 30 (fun p q wx => ∃ pb qb va1 vc1 va3 vc3 bs cs, p = .pointer (some ⟨pb, 0, none⟩) ∧ q = .pointer (some ⟨qb, 0, none⟩) ∧ Hid (Jn5 w3 wx pb qb (.slice va1 (List.length bs) vc1) (.slice va3 (List.length cs) vc3) bs cs (progA s) (progA t)))
  case first =>
      have KS : Hid (∀ w', Gr w3 w' → w'.cell? ⟨w.heap.size, 0, none⟩ = some (.int .u8 s.r) ∧ w'.cell? ⟨w.heap.size, 1, none⟩ = some (.bool s.bare) ∧ w'.cell? ⟨w.heap.size, 2, none⟩ = some (.slice va s.bs.length vc) ∧ w'.cell? ⟨w.heap.size + 1, 0, none⟩ = some (.int .u8 t.r) ∧ w'.cell? ⟨w.heap.size + 1, 1, none⟩ = some (.bool t.bare) ∧ w'.cell? ⟨w.heap.size + 1, 2, none⟩ = some (.slice ta t.bs.length tc) ∧ Gr w3 w') := fun w' g => ⟨g.val c0, g.val c1, g.val c2, g.val d0, g.val d1, g.val d2, g⟩
      refine wp_region_noPanic ?_
      refine wp_region_held_drew (S := fun w' => w'.cell? ⟨w.heap.size, 0, none⟩ = some (.int .u8 s.r) ∧ w'.cell? ⟨w.heap.size, 1, none⟩ = some (.bool s.bare) ∧ w'.cell? ⟨w.heap.size, 2, none⟩ = some (.slice va s.bs.length vc) ∧ w'.cell? ⟨w.heap.size + 1, 0, none⟩ = some (.int .u8 t.r) ∧ w'.cell? ⟨w.heap.size + 1, 1, none⟩ = some (.bool t.bare) ∧ w'.cell? ⟨w.heap.size + 1, 2, none⟩ = some (.slice ta t.bs.length tc) ∧ Gr w3 w') hm (KS.out _ (Gr.refl _).drew) (fun hHeld => ?_)
      generalize w3.drew = x0 at *
      refine wpAnyH_take (i := 0) (oi := { dst := some 27, op := Go.Op.load 24 (Go.Operand.tmp 2), type := 24, pos := "law.go:218", after := #[], guard := none }) (v := ?_) rfl (by kernel_rfl) (by kernel_rfl) (by kernel_rfl) (fun _ _ _ h => h) (Or.inl ⟨by rfl, ?_⟩) (by assumption) ?_
      rotate_left
      (intro w hSw; (try dsimp only at hSw); go_simp; try (with_reducible rfl))
      simp only [Act.put, List.setIfInBounds_toArray, List.set_cons_zero, List.set_cons_succ]
      refine wpAnyH_take (i := 2) (oi := { dst := some 29, op := Go.Op.load 24 (Go.Operand.tmp 3), type := 24, pos := "law.go:218", after := #[], guard := none }) (v := ?_) rfl (by kernel_rfl) (by kernel_rfl) (by kernel_rfl) (fun _ _ _ h => h) (Or.inl ⟨by rfl, ?_⟩) (by assumption) ?_
      rotate_left
      (intro w hSw; (try dsimp only at hSw); go_simp; try (with_reducible rfl))
      simp only [Act.put, List.setIfInBounds_toArray, List.set_cons_zero, List.set_cons_succ]
      refine wpAnyH_ready (rs := [1, 4, 5]) (by kernel_rfl) (by simp) (AllReadyH.cons (o := { dst := some 28, op := Go.Op.call { callee := Go.Callee.value (Go.Operand.func 9), args := #[Go.Operand.tmp 27], argTypes := #[24] }, type := 29, pos := "law.go:218", after := #[{ on := 0, ground := Go.Ground.data }], guard := none }) rfl (fun K hK => ?_) (AllReadyH.cons (o := { dst := some 5, op := Go.Op.alloc 29, type := 0, pos := "law.go:218", after := #[], guard := none }) rfl (fun K hK => ?_) (AllReadyH.cons (o := { dst := some 6, op := Go.Op.alloc 29, type := 0, pos := "law.go:218", after := #[], guard := none }) rfl (fun K hK => ?_) AllReadyH.nil)))
      · have hsz1 : w3.heap.size ≤ x0.heap.size := (hHeld.2.2.2.2.2.2).size
        go_simp
        go_at_call 9
        refine (HPS.out _ hHeld.2.2.2.2.2.2).mono ?_
        rintro e x1 ⟨v1, bp1, bs1, rfl, own1, hab1, gx⟩
        obtain ⟨va1, vc1, hv1⟩ := own1.b.shape
        subst hv1
        refine hK.out _ _ (KS.out _ (hHeld.2.2.2.2.2.2.trans gx)) (fun hH2 => ?_)
        clear hHeld hK K
        have hHeld := hH2
        clear hH2
        try simp only [Act.put, List.setIfInBounds_toArray, List.set_cons_zero, List.set_cons_succ]
        have P1 := hid (own_pl own1 hab1)
        have N1 := hid (own_off own1)
        have m1 : x1.heap.size ≤ x1.heap.size := Nat.le_refl _
        have SE1 := hid (show ∀ k ∈ blks (.slice va1 bs1.length vc1), w3.heap.size ≤ k ∧ ∀ B ∈ bs1, ¬ k ∈ blks B.iv from fun k hk => ⟨Nat.le_trans hsz1 (own1.o k hk).1, fun B hB hx => (own1.q B hB k hx).2.2 hk⟩)
        clear own1 hab1 gx hsz1
        refine wpAnyH_ready (rs := [3, 4, 5]) (by kernel_rfl) (by simp) (AllReadyH.cons (o := { dst := some 30, op := Go.Op.call { callee := Go.Callee.value (Go.Operand.func 9), args := #[Go.Operand.tmp 29], argTypes := #[24] }, type := 29, pos := "law.go:218", after := #[{ on := 2, ground := Go.Ground.data }, { on := 1, ground := Go.Ground.chain }], guard := none }) rfl (fun K hK => ?_) (AllReadyH.cons (o := { dst := some 5, op := Go.Op.alloc 29, type := 0, pos := "law.go:218", after := #[], guard := none }) rfl (fun K hK => ?_) (AllReadyH.cons (o := { dst := some 6, op := Go.Op.alloc 29, type := 0, pos := "law.go:218", after := #[], guard := none }) rfl (fun K hK => ?_) AllReadyH.nil)))
        · have hsz3 : w3.heap.size ≤ x1.heap.size := (hHeld.2.2.2.2.2.2).size
          go_simp
          go_at_call 9
          refine (HPT.out _ hHeld.2.2.2.2.2.2).mono ?_
          rintro e x3 ⟨v3, bp3, bs3, rfl, own3, hab3, gx⟩
          obtain ⟨va3, vc3, hv3⟩ := own3.b.shape
          subst hv3
          refine hK.out _ _ (KS.out _ (hHeld.2.2.2.2.2.2.trans gx)) (fun hH2 => ?_)
          clear hHeld hK K
          have hHeld := hH2
          clear hH2
          try simp only [Act.put, List.setIfInBounds_toArray, List.set_cons_zero, List.set_cons_succ]
          have P3 := hid (own_pl own3 hab3)
          have N3 := hid (own_off own3)
          have m3 : x3.heap.size ≤ x3.heap.size := Nat.le_refl _
          have SEP := hid (show ∀ k ∈ blks (.slice va3 bs3.length vc3), Off k (.slice va1 bs1.length vc1) bs1 ∧ w3.heap.size ≤ k ∧ ∀ B ∈ bs3, ¬ k ∈ blks B.iv from fun k hk => ⟨P1.out.off k (own3.o k hk).1, Nat.le_trans hsz3 (own3.o k hk).1, fun B hB hx => (own3.q B hB k hx).2.2 hk⟩)
          have SEQ := hid (show ∀ k ∈ blks (.slice va1 bs1.length vc1), Off k (.slice va3 bs3.length vc3) bs3 from fun k hk => N3.out k (.inl (P1.out.ok.b.lt k hk)))
          replace P1 := hid (P1.out.gr gx)
          replace m1 := Nat.le_trans m1 gx.size
          clear own3 hab3 gx hsz3
          refine wpAnyH_ready (rs := [4, 5]) (by kernel_rfl) (by simp) (AllReadyH.cons (o := { dst := some 5, op := Go.Op.alloc 29, type := 0, pos := "law.go:218", after := #[], guard := none }) rfl (fun K hK => ?_) (AllReadyH.cons (o := { dst := some 6, op := Go.Op.alloc 29, type := 0, pos := "law.go:218", after := #[], guard := none }) rfl (fun K hK => ?_) AllReadyH.nil))
          · have WP4 : w3.heap.size ≤ x3.heap.size := (hHeld.2.2.2.2.2.2).size
            go_simp
            refine hK.out _ _ (KS.out _ (hHeld.2.2.2.2.2.2.alloc _)) (fun hH2 => ?_)
            clear hHeld hK K
            have hHeld := hH2
            clear hH2
            try simp only [Act.put, List.setIfInBounds_toArray, List.set_cons_zero, List.set_cons_succ]
            have gx := (Gr.refl x3).alloc (.cells #[.slice none 0 0] 29)
            have A4 := hid (heap_alloc_new x3 (.cells #[.slice none 0 0] 29))
            have l4 : x3.heap.size < (x3.alloc (.cells #[.slice none 0 0] 29)).heap.size := by simp
            have F14 := hid (N1.out x3.heap.size (.inr m1))
            have F34 := hid (N3.out x3.heap.size (.inr m3))
            replace P1 := hid (P1.out.gr gx)
            replace m1 := Nat.le_trans m1 gx.size
            replace P3 := hid (P3.out.gr gx)
            replace m3 := Nat.le_trans m3 gx.size
            clear gx
            generalize x3.alloc (.cells #[.slice none 0 0] 29) = x4 at *
            generalize x3.heap.size = pb4 at *
            refine wpAnyH_ready (rs := [5]) (by kernel_rfl) (by simp) (AllReadyH.cons (o := { dst := some 6, op := Go.Op.alloc 29, type := 0, pos := "law.go:218", after := #[], guard := none }) rfl (fun K hK => ?_) AllReadyH.nil)
            have WP5 : w3.heap.size ≤ x4.heap.size := (hHeld.2.2.2.2.2.2).size
            go_simp
            refine hK.out _ _ (KS.out _ (hHeld.2.2.2.2.2.2.alloc _)) (fun hH2 => ?_)
            clear hHeld hK K
            have hHeld := hH2
            clear hH2
            try simp only [Act.put, List.setIfInBounds_toArray, List.set_cons_zero, List.set_cons_succ]
            have gx := (Gr.refl x4).alloc (.cells #[.slice none 0 0] 29)
            have A5 := hid (heap_alloc_new x4 (.cells #[.slice none 0 0] 29))
            have l5 : x4.heap.size < (x4.alloc (.cells #[.slice none 0 0] 29)).heap.size := by simp
            have F15 := hid (N1.out x4.heap.size (.inr m1))
            have F35 := hid (N3.out x4.heap.size (.inr m3))
            have D45 : ¬ pb4 = x4.heap.size := by omega
            replace P1 := hid (P1.out.gr gx)
            replace m1 := Nat.le_trans m1 gx.size
            replace P3 := hid (P3.out.gr gx)
            replace m3 := Nat.le_trans m3 gx.size
            replace A4 := hid (gx.obj A4.out)
            replace l4 := Nat.lt_of_lt_of_le l4 gx.size
            clear gx
            generalize x4.alloc (.cells #[.slice none 0 0] 29) = x5 at *
            generalize x4.heap.size = pb5 at *
            refine wpAnyH_ready (rs := [6]) (by kernel_rfl) (by simp) (AllReadyH.cons (o := { dst := none, op := Go.Op.store 29 (Go.Operand.tmp 5) (Go.Operand.tmp 28), type := 0, pos := "law.go:218", after := #[{ on := 4, ground := Go.Ground.data }, { on := 1, ground := Go.Ground.data }, { on := 3, ground := Go.Ground.chain }, { on := 0, ground := Go.Ground.phase }, { on := 1, ground := Go.Ground.phase }, { on := 2, ground := Go.Ground.textOnly Go.Departure.lateStores }, { on := 3, ground := Go.Ground.textOnly Go.Departure.lateStoresUnsure }, { on := 4, ground := Go.Ground.phase }, { on := 5, ground := Go.Ground.phase }], guard := none }) rfl (fun K hK => ?_) AllReadyH.nil)
            have c6 := cell_of_row x5 pb4 0 _ _ _ A4.out
            simp only [List.getElem?_toArray, List.getElem?_cons_zero] at c6
            have f6 : ∀ j, x5.frozen? ⟨pb4, j, none⟩ = false := fun j => frozen_of_row _ _ _ _ _ A4.out
            go_simp
            refine hK.out _ _ (KS.out _ (hHeld.2.2.2.2.2.2.setCell WP4 _)) (fun hH2 => ?_)
            clear hHeld hK K
            have hHeld := hH2
            clear hH2
            try simp only [Act.put, List.setIfInBounds_toArray, List.set_cons_zero, List.set_cons_succ]
            have C4 : Hid ((x5.setCell ⟨pb4, 0, none⟩ (.slice va1 bs1.length vc1)).cell? ⟨pb4, 0, none⟩ = some (.slice va1 bs1.length vc1)) := World.cell?_setCell_same _ _ _ c6
            replace P1 := hid (P1.out.set F14.out 0 (.slice va1 bs1.length vc1))
            replace P3 := hid (P3.out.set F34.out 0 (.slice va1 bs1.length vc1))
            replace A5 := hid ((Below.heap_setCell x5 ⟨pb4, 0, none⟩ (.slice va1 bs1.length vc1) pb5 (fun e => by simp at e <;> omega)).trans A5.out)
            clear c6 f6
            generalize x5.setCell ⟨pb4, 0, none⟩ (.slice va1 bs1.length vc1) = x6 at *
            refine wpAnyH_ready (rs := [7]) (by kernel_rfl) (by simp) (AllReadyH.cons (o := { dst := none, op := Go.Op.store 29 (Go.Operand.tmp 6) (Go.Operand.tmp 30), type := 0, pos := "law.go:218", after := #[{ on := 5, ground := Go.Ground.data }, { on := 3, ground := Go.Ground.data }, { on := 6, ground := Go.Ground.chain }, { on := 0, ground := Go.Ground.phase }, { on := 1, ground := Go.Ground.phase }, { on := 2, ground := Go.Ground.phase }, { on := 3, ground := Go.Ground.phase }, { on := 4, ground := Go.Ground.phase }, { on := 5, ground := Go.Ground.phase }, { on := 6, ground := Go.Ground.phase }], guard := none }) rfl (fun K hK => ?_) AllReadyH.nil)
            have c7 := cell_of_row x6 pb5 0 _ _ _ A5.out
            simp only [List.getElem?_toArray, List.getElem?_cons_zero] at c7
            have f7 : ∀ j, x6.frozen? ⟨pb5, j, none⟩ = false := fun j => frozen_of_row _ _ _ _ _ A5.out
            go_simp
            refine hK.out _ _ (KS.out _ (hHeld.2.2.2.2.2.2.setCell WP5 _)) (fun hH2 => ?_)
            clear hHeld hK K
            have hHeld := hH2
            clear hH2
            try simp only [Act.put, List.setIfInBounds_toArray, List.set_cons_zero, List.set_cons_succ]
            have C5 : Hid ((x6.setCell ⟨pb5, 0, none⟩ (.slice va3 bs3.length vc3)).cell? ⟨pb5, 0, none⟩ = some (.slice va3 bs3.length vc3)) := World.cell?_setCell_same _ _ _ c7
            replace P1 := hid (P1.out.set F15.out 0 (.slice va3 bs3.length vc3))
            replace P3 := hid (P3.out.set F35.out 0 (.slice va3 bs3.length vc3))
            replace C4 := hid ((World.cell?_setCell_other x6 ⟨pb5, 0, none⟩ ⟨pb4, 0, none⟩ (.slice va3 bs3.length vc3) (fun e => by simp at e <;> omega)).trans C4.out)
            clear c7 f7
            generalize x6.setCell ⟨pb5, 0, none⟩ (.slice va3 bs3.length vc3) = x7 at *
            refine wpAnyH_done (by kernel_rfl) (NoPanic.normal ?_) _
            go_simp
            go_wp2_with fail
            go_meet
            exact ⟨pb4, pb5, _, _, _, _, _, _, rfl, rfl, ⟨hHeld.2.2.2.2.2.2, P1.out, P3.out, C4.out, C5.out, fun k hk => ⟨(SEP.out k hk).1, (SEP.out k hk).2.1, fun e => F34.out.1 (e ▸ hk), fun e => F35.out.1 (e ▸ hk), (SEP.out k hk).2.2⟩, fun k hk => ⟨SEQ.out k hk, SE1.out k hk, fun e => F14.out.1 (e ▸ hk), fun e => F15.out.1 (e ▸ hk)⟩⟩⟩
          · have WP5 : w3.heap.size ≤ x3.heap.size := (hHeld.2.2.2.2.2.2).size
            go_simp
            refine hK.out _ _ (KS.out _ (hHeld.2.2.2.2.2.2.alloc _)) (fun hH2 => ?_)
            clear hHeld hK K
            have hHeld := hH2
            clear hH2
            try simp only [Act.put, List.setIfInBounds_toArray, List.set_cons_zero, List.set_cons_succ]
            have gx := (Gr.refl x3).alloc (.cells #[.slice none 0 0] 29)
            have A5 := hid (heap_alloc_new x3 (.cells #[.slice none 0 0] 29))
            have l5 : x3.heap.size < (x3.alloc (.cells #[.slice none 0 0] 29)).heap.size := by simp
            have F15 := hid (N1.out x3.heap.size (.inr m1))
            have F35 := hid (N3.out x3.heap.size (.inr m3))
            replace P1 := hid (P1.out.gr gx)
            replace m1 := Nat.le_trans m1 gx.size
            replace P3 := hid (P3.out.gr gx)
            replace m3 := Nat.le_trans m3 gx.size
            clear gx
            generalize x3.alloc (.cells #[.slice none 0 0] 29) = x5 at *
            generalize x3.heap.size = pb5 at *
            refine wpAnyH_ready (rs := [4]) (by kernel_rfl) (by simp) (AllReadyH.cons (o := { dst := some 5, op := Go.Op.alloc 29, type := 0, pos := "law.go:218", after := #[], guard := none }) rfl (fun K hK => ?_) AllReadyH.nil)
            have WP4 : w3.heap.size ≤ x5.heap.size := (hHeld.2.2.2.2.2.2).size
            go_simp
            refine hK.out _ _ (KS.out _ (hHeld.2.2.2.2.2.2.alloc _)) (fun hH2 => ?_)
            clear hHeld hK K
            have hHeld := hH2
            clear hH2
            try simp only [Act.put, List.setIfInBounds_toArray, List.set_cons_zero, List.set_cons_succ]
            have gx := (Gr.refl x5).alloc (.cells #[.slice none 0 0] 29)
            have A4 := hid (heap_alloc_new x5 (.cells #[.slice none 0 0] 29))
            have l4 : x5.heap.size < (x5.alloc (.cells #[.slice none 0 0] 29)).heap.size := by simp
            have F14 := hid (N1.out x5.heap.size (.inr m1))
            have F34 := hid (N3.out x5.heap.size (.inr m3))
            have D45 : ¬ pb5 = x5.heap.size := by omega
            replace P1 := hid (P1.out.gr gx)
            replace m1 := Nat.le_trans m1 gx.size
            replace P3 := hid (P3.out.gr gx)
            replace m3 := Nat.le_trans m3 gx.size
            replace A5 := hid (gx.obj A5.out)
            replace l5 := Nat.lt_of_lt_of_le l5 gx.size
            clear gx
            generalize x5.alloc (.cells #[.slice none 0 0] 29) = x4 at *
            generalize x5.heap.size = pb4 at *
            refine wpAnyH_ready (rs := [6]) (by kernel_rfl) (by simp) (AllReadyH.cons (o := { dst := none, op := Go.Op.store 29 (Go.Operand.tmp 5) (Go.Operand.tmp 28), type := 0, pos := "law.go:218", after := #[{ on := 4, ground := Go.Ground.data }, { on := 1, ground := Go.Ground.data }, { on := 3, ground := Go.Ground.chain }, { on := 0, ground := Go.Ground.phase }, { on := 1, ground := Go.Ground.phase }, { on := 2, ground := Go.Ground.textOnly Go.Departure.lateStores }, { on := 3, ground := Go.Ground.textOnly Go.Departure.lateStoresUnsure }, { on := 4, ground := Go.Ground.phase }, { on := 5, ground := Go.Ground.phase }], guard := none }) rfl (fun K hK => ?_) AllReadyH.nil)
            have c6 := cell_of_row x4 pb4 0 _ _ _ A4.out
            simp only [List.getElem?_toArray, List.getElem?_cons_zero] at c6
            have f6 : ∀ j, x4.frozen? ⟨pb4, j, none⟩ = false := fun j => frozen_of_row _ _ _ _ _ A4.out
            go_simp
            refine hK.out _ _ (KS.out _ (hHeld.2.2.2.2.2.2.setCell WP4 _)) (fun hH2 => ?_)
            clear hHeld hK K
            have hHeld := hH2
            clear hH2
            try simp only [Act.put, List.setIfInBounds_toArray, List.set_cons_zero, List.set_cons_succ]
            have C4 : Hid ((x4.setCell ⟨pb4, 0, none⟩ (.slice va1 bs1.length vc1)).cell? ⟨pb4, 0, none⟩ = some (.slice va1 bs1.length vc1)) := World.cell?_setCell_same _ _ _ c6
            replace P1 := hid (P1.out.set F14.out 0 (.slice va1 bs1.length vc1))
            replace P3 := hid (P3.out.set F34.out 0 (.slice va1 bs1.length vc1))
            replace A5 := hid ((Below.heap_setCell x4 ⟨pb4, 0, none⟩ (.slice va1 bs1.length vc1) pb5 (fun e => by simp at e <;> omega)).trans A5.out)
            clear c6 f6
            generalize x4.setCell ⟨pb4, 0, none⟩ (.slice va1 bs1.length vc1) = x6 at *
            refine wpAnyH_ready (rs := [7]) (by kernel_rfl) (by simp) (AllReadyH.cons (o := { dst := none, op := Go.Op.store 29 (Go.Operand.tmp 6) (Go.Operand.tmp 30), type := 0, pos := "law.go:218", after := #[{ on := 5, ground := Go.Ground.data }, { on := 3, ground := Go.Ground.data }, { on := 6, ground := Go.Ground.chain }, { on := 0, ground := Go.Ground.phase }, { on := 1, ground := Go.Ground.phase }, { on := 2, ground := Go.Ground.phase }, { on := 3, ground := Go.Ground.phase }, { on := 4, ground := Go.Ground.phase }, { on := 5, ground := Go.Ground.phase }, { on := 6, ground := Go.Ground.phase }], guard := none }) rfl (fun K hK => ?_) AllReadyH.nil)
            have c7 := cell_of_row x6 pb5 0 _ _ _ A5.out
            simp only [List.getElem?_toArray, List.getElem?_cons_zero] at c7
            have f7 : ∀ j, x6.frozen? ⟨pb5, j, none⟩ = false := fun j => frozen_of_row _ _ _ _ _ A5.out
            go_simp
            refine hK.out _ _ (KS.out _ (hHeld.2.2.2.2.2.2.setCell WP5 _)) (fun hH2 => ?_)
            clear hHeld hK K
            have hHeld := hH2
            clear hH2
            try simp only [Act.put, List.setIfInBounds_toArray, List.set_cons_zero, List.set_cons_succ]
            have C5 : Hid ((x6.setCell ⟨pb5, 0, none⟩ (.slice va3 bs3.length vc3)).cell? ⟨pb5, 0, none⟩ = some (.slice va3 bs3.length vc3)) := World.cell?_setCell_same _ _ _ c7
            replace P1 := hid (P1.out.set F15.out 0 (.slice va3 bs3.length vc3))
            replace P3 := hid (P3.out.set F35.out 0 (.slice va3 bs3.length vc3))
            replace C4 := hid ((World.cell?_setCell_other x6 ⟨pb5, 0, none⟩ ⟨pb4, 0, none⟩ (.slice va3 bs3.length vc3) (fun e => by simp at e <;> omega)).trans C4.out)
            clear c7 f7
            generalize x6.setCell ⟨pb5, 0, none⟩ (.slice va3 bs3.length vc3) = x7 at *
            refine wpAnyH_done (by kernel_rfl) (NoPanic.normal ?_) _
            go_simp
            go_wp2_with fail
            go_meet
            exact ⟨pb4, pb5, _, _, _, _, _, _, rfl, rfl, ⟨hHeld.2.2.2.2.2.2, P1.out, P3.out, C4.out, C5.out, fun k hk => ⟨(SEP.out k hk).1, (SEP.out k hk).2.1, fun e => F34.out.1 (e ▸ hk), fun e => F35.out.1 (e ▸ hk), (SEP.out k hk).2.2⟩, fun k hk => ⟨SEQ.out k hk, SE1.out k hk, fun e => F14.out.1 (e ▸ hk), fun e => F15.out.1 (e ▸ hk)⟩⟩⟩
        · have WP4 : w3.heap.size ≤ x1.heap.size := (hHeld.2.2.2.2.2.2).size
          go_simp
          refine hK.out _ _ (KS.out _ (hHeld.2.2.2.2.2.2.alloc _)) (fun hH2 => ?_)
          clear hHeld hK K
          have hHeld := hH2
          clear hH2
          try simp only [Act.put, List.setIfInBounds_toArray, List.set_cons_zero, List.set_cons_succ]
          have gx := (Gr.refl x1).alloc (.cells #[.slice none 0 0] 29)
          have A4 := hid (heap_alloc_new x1 (.cells #[.slice none 0 0] 29))
          have l4 : x1.heap.size < (x1.alloc (.cells #[.slice none 0 0] 29)).heap.size := by simp
          have F14 := hid (N1.out x1.heap.size (.inr m1))
          replace P1 := hid (P1.out.gr gx)
          replace m1 := Nat.le_trans m1 gx.size
          clear gx
          generalize x1.alloc (.cells #[.slice none 0 0] 29) = x4 at *
          generalize x1.heap.size = pb4 at *
          refine wpAnyH_ready (rs := [3, 5]) (by kernel_rfl) (by simp) (AllReadyH.cons (o := { dst := some 30, op := Go.Op.call { callee := Go.Callee.value (Go.Operand.func 9), args := #[Go.Operand.tmp 29], argTypes := #[24] }, type := 29, pos := "law.go:218", after := #[{ on := 2, ground := Go.Ground.data }, { on := 1, ground := Go.Ground.chain }], guard := none }) rfl (fun K hK => ?_) (AllReadyH.cons (o := { dst := some 6, op := Go.Op.alloc 29, type := 0, pos := "law.go:218", after := #[], guard := none }) rfl (fun K hK => ?_) AllReadyH.nil))
          · have hsz3 : w3.heap.size ≤ x4.heap.size := (hHeld.2.2.2.2.2.2).size
            go_simp
            go_at_call 9
            refine (HPT.out _ hHeld.2.2.2.2.2.2).mono ?_
            rintro e x3 ⟨v3, bp3, bs3, rfl, own3, hab3, gx⟩
            obtain ⟨va3, vc3, hv3⟩ := own3.b.shape
            subst hv3
            refine hK.out _ _ (KS.out _ (hHeld.2.2.2.2.2.2.trans gx)) (fun hH2 => ?_)
            clear hHeld hK K
            have hHeld := hH2
            clear hH2
            try simp only [Act.put, List.setIfInBounds_toArray, List.set_cons_zero, List.set_cons_succ]
            have P3 := hid (own_pl own3 hab3)
            have N3 := hid (own_off own3)
            have m3 : x3.heap.size ≤ x3.heap.size := Nat.le_refl _
            have SEP := hid (show ∀ k ∈ blks (.slice va3 bs3.length vc3), Off k (.slice va1 bs1.length vc1) bs1 ∧ w3.heap.size ≤ k ∧ ∀ B ∈ bs3, ¬ k ∈ blks B.iv from fun k hk => ⟨P1.out.off k (own3.o k hk).1, Nat.le_trans hsz3 (own3.o k hk).1, fun B hB hx => (own3.q B hB k hx).2.2 hk⟩)
            have SEQ := hid (show ∀ k ∈ blks (.slice va1 bs1.length vc1), Off k (.slice va3 bs3.length vc3) bs3 from fun k hk => N3.out k (.inl (P1.out.ok.b.lt k hk)))
            have F34 := hid (N3.out pb4 (.inl l4))
            replace P1 := hid (P1.out.gr gx)
            replace m1 := Nat.le_trans m1 gx.size
            replace A4 := hid (gx.obj A4.out)
            replace l4 := Nat.lt_of_lt_of_le l4 gx.size
            clear own3 hab3 gx hsz3
            refine wpAnyH_ready (rs := [5]) (by kernel_rfl) (by simp) (AllReadyH.cons (o := { dst := some 6, op := Go.Op.alloc 29, type := 0, pos := "law.go:218", after := #[], guard := none }) rfl (fun K hK => ?_) AllReadyH.nil)
            have WP5 : w3.heap.size ≤ x3.heap.size := (hHeld.2.2.2.2.2.2).size
            go_simp
            refine hK.out _ _ (KS.out _ (hHeld.2.2.2.2.2.2.alloc _)) (fun hH2 => ?_)
            clear hHeld hK K
            have hHeld := hH2
            clear hH2
            try simp only [Act.put, List.setIfInBounds_toArray, List.set_cons_zero, List.set_cons_succ]
            have gx := (Gr.refl x3).alloc (.cells #[.slice none 0 0] 29)
            have A5 := hid (heap_alloc_new x3 (.cells #[.slice none 0 0] 29))
            have l5 : x3.heap.size < (x3.alloc (.cells #[.slice none 0 0] 29)).heap.size := by simp
            have F15 := hid (N1.out x3.heap.size (.inr m1))
            have F35 := hid (N3.out x3.heap.size (.inr m3))
            have D45 : ¬ pb4 = x3.heap.size := by omega
            replace P1 := hid (P1.out.gr gx)
            replace m1 := Nat.le_trans m1 gx.size
            replace P3 := hid (P3.out.gr gx)
            replace m3 := Nat.le_trans m3 gx.size
            replace A4 := hid (gx.obj A4.out)
            replace l4 := Nat.lt_of_lt_of_le l4 gx.size
            clear gx
            generalize x3.alloc (.cells #[.slice none 0 0] 29) = x5 at *
            generalize x3.heap.size = pb5 at *
            refine wpAnyH_ready (rs := [6]) (by kernel_rfl) (by simp) (AllReadyH.cons (o := { dst := none, op := Go.Op.store 29 (Go.Operand.tmp 5) (Go.Operand.tmp 28), type := 0, pos := "law.go:218", after := #[{ on := 4, ground := Go.Ground.data }, { on := 1, ground := Go.Ground.data }, { on := 3, ground := Go.Ground.chain }, { on := 0, ground := Go.Ground.phase }, { on := 1, ground := Go.Ground.phase }, { on := 2, ground := Go.Ground.textOnly Go.Departure.lateStores }, { on := 3, ground := Go.Ground.textOnly Go.Departure.lateStoresUnsure }, { on := 4, ground := Go.Ground.phase }, { on := 5, ground := Go.Ground.phase }], guard := none }) rfl (fun K hK => ?_) AllReadyH.nil)
            have c6 := cell_of_row x5 pb4 0 _ _ _ A4.out
            simp only [List.getElem?_toArray, List.getElem?_cons_zero] at c6
            have f6 : ∀ j, x5.frozen? ⟨pb4, j, none⟩ = false := fun j => frozen_of_row _ _ _ _ _ A4.out
            go_simp
            refine hK.out _ _ (KS.out _ (hHeld.2.2.2.2.2.2.setCell WP4 _)) (fun hH2 => ?_)
            clear hHeld hK K
            have hHeld := hH2
            clear hH2
            try simp only [Act.put, List.setIfInBounds_toArray, List.set_cons_zero, List.set_cons_succ]
            have C4 : Hid ((x5.setCell ⟨pb4, 0, none⟩ (.slice va1 bs1.length vc1)).cell? ⟨pb4, 0, none⟩ = some (.slice va1 bs1.length vc1)) := World.cell?_setCell_same _ _ _ c6
            replace P1 := hid (P1.out.set F14.out 0 (.slice va1 bs1.length vc1))
            replace P3 := hid (P3.out.set F34.out 0 (.slice va1 bs1.length vc1))
            replace A5 := hid ((Below.heap_setCell x5 ⟨pb4, 0, none⟩ (.slice va1 bs1.length vc1) pb5 (fun e => by simp at e <;> omega)).trans A5.out)
            clear c6 f6
            generalize x5.setCell ⟨pb4, 0, none⟩ (.slice va1 bs1.length vc1) = x6 at *
            refine wpAnyH_ready (rs := [7]) (by kernel_rfl) (by simp) (AllReadyH.cons (o := { dst := none, op := Go.Op.store 29 (Go.Operand.tmp 6) (Go.Operand.tmp 30), type := 0, pos := "law.go:218", after := #[{ on := 5, ground := Go.Ground.data }, { on := 3, ground := Go.Ground.data }, { on := 6, ground := Go.Ground.chain }, { on := 0, ground := Go.Ground.phase }, { on := 1, ground := Go.Ground.phase }, { on := 2, ground := Go.Ground.phase }, { on := 3, ground := Go.Ground.phase }, { on := 4, ground := Go.Ground.phase }, { on := 5, ground := Go.Ground.phase }, { on := 6, ground := Go.Ground.phase }], guard := none }) rfl (fun K hK => ?_) AllReadyH.nil)
            have c7 := cell_of_row x6 pb5 0 _ _ _ A5.out
            simp only [List.getElem?_toArray, List.getElem?_cons_zero] at c7
            have f7 : ∀ j, x6.frozen? ⟨pb5, j, none⟩ = false := fun j => frozen_of_row _ _ _ _ _ A5.out
            go_simp
            refine hK.out _ _ (KS.out _ (hHeld.2.2.2.2.2.2.setCell WP5 _)) (fun hH2 => ?_)
            clear hHeld hK K
            have hHeld := hH2
            clear hH2
            try simp only [Act.put, List.setIfInBounds_toArray, List.set_cons_zero, List.set_cons_succ]
            have C5 : Hid ((x6.setCell ⟨pb5, 0, none⟩ (.slice va3 bs3.length vc3)).cell? ⟨pb5, 0, none⟩ = some (.slice va3 bs3.length vc3)) := World.cell?_setCell_same _ _ _ c7
            replace P1 := hid (P1.out.set F15.out 0 (.slice va3 bs3.length vc3))
            replace P3 := hid (P3.out.set F35.out 0 (.slice va3 bs3.length vc3))
            replace C4 := hid ((World.cell?_setCell_other x6 ⟨pb5, 0, none⟩ ⟨pb4, 0, none⟩ (.slice va3 bs3.length vc3) (fun e => by simp at e <;> omega)).trans C4.out)
            clear c7 f7
            generalize x6.setCell ⟨pb5, 0, none⟩ (.slice va3 bs3.length vc3) = x7 at *
            refine wpAnyH_done (by kernel_rfl) (NoPanic.normal ?_) _
            go_simp
            go_wp2_with fail
            go_meet
            exact ⟨pb4, pb5, _, _, _, _, _, _, rfl, rfl, ⟨hHeld.2.2.2.2.2.2, P1.out, P3.out, C4.out, C5.out, fun k hk => ⟨(SEP.out k hk).1, (SEP.out k hk).2.1, fun e => F34.out.1 (e ▸ hk), fun e => F35.out.1 (e ▸ hk), (SEP.out k hk).2.2⟩, fun k hk => ⟨SEQ.out k hk, SE1.out k hk, fun e => F14.out.1 (e ▸ hk), fun e => F15.out.1 (e ▸ hk)⟩⟩⟩
          · have WP5 : w3.heap.size ≤ x4.heap.size := (hHeld.2.2.2.2.2.2).size
            go_simp
            refine hK.out _ _ (KS.out _ (hHeld.2.2.2.2.2.2.alloc _)) (fun hH2 => ?_)
            clear hHeld hK K
            have hHeld := hH2
            clear hH2
            try simp only [Act.put, List.setIfInBounds_toArray, List.set_cons_zero, List.set_cons_succ]
            have gx := (Gr.refl x4).alloc (.cells #[.slice none 0 0] 29)
            have A5 := hid (heap_alloc_new x4 (.cells #[.slice none 0 0] 29))
            have l5 : x4.heap.size < (x4.alloc (.cells #[.slice none 0 0] 29)).heap.size := by simp
            have F15 := hid (N1.out x4.heap.size (.inr m1))
            have D45 : ¬ pb4 = x4.heap.size := by omega
            replace P1 := hid (P1.out.gr gx)
            replace m1 := Nat.le_trans m1 gx.size
            replace A4 := hid (gx.obj A4.out)
            replace l4 := Nat.lt_of_lt_of_le l4 gx.size
            clear gx
            generalize x4.alloc (.cells #[.slice none 0 0] 29) = x5 at *
            generalize x4.heap.size = pb5 at *
            refine wpAnyH_ready (rs := [3]) (by kernel_rfl) (by simp) (AllReadyH.cons (o := { dst := some 30, op := Go.Op.call { callee := Go.Callee.value (Go.Operand.func 9), args := #[Go.Operand.tmp 29], argTypes := #[24] }, type := 29, pos := "law.go:218", after := #[{ on := 2, ground := Go.Ground.data }, { on := 1, ground := Go.Ground.chain }], guard := none }) rfl (fun K hK => ?_) AllReadyH.nil)
            have hsz3 : w3.heap.size ≤ x5.heap.size := (hHeld.2.2.2.2.2.2).size
            go_simp
            go_at_call 9
            refine (HPT.out _ hHeld.2.2.2.2.2.2).mono ?_
            rintro e x3 ⟨v3, bp3, bs3, rfl, own3, hab3, gx⟩
            obtain ⟨va3, vc3, hv3⟩ := own3.b.shape
            subst hv3
            refine hK.out _ _ (KS.out _ (hHeld.2.2.2.2.2.2.trans gx)) (fun hH2 => ?_)
            clear hHeld hK K
            have hHeld := hH2
            clear hH2
            try simp only [Act.put, List.setIfInBounds_toArray, List.set_cons_zero, List.set_cons_succ]
            have P3 := hid (own_pl own3 hab3)
            have N3 := hid (own_off own3)
            have m3 : x3.heap.size ≤ x3.heap.size := Nat.le_refl _
            have SEP := hid (show ∀ k ∈ blks (.slice va3 bs3.length vc3), Off k (.slice va1 bs1.length vc1) bs1 ∧ w3.heap.size ≤ k ∧ ∀ B ∈ bs3, ¬ k ∈ blks B.iv from fun k hk => ⟨P1.out.off k (own3.o k hk).1, Nat.le_trans hsz3 (own3.o k hk).1, fun B hB hx => (own3.q B hB k hx).2.2 hk⟩)
            have SEQ := hid (show ∀ k ∈ blks (.slice va1 bs1.length vc1), Off k (.slice va3 bs3.length vc3) bs3 from fun k hk => N3.out k (.inl (P1.out.ok.b.lt k hk)))
            have F34 := hid (N3.out pb4 (.inl l4))
            have F35 := hid (N3.out pb5 (.inl l5))
            replace P1 := hid (P1.out.gr gx)
            replace m1 := Nat.le_trans m1 gx.size
            replace A4 := hid (gx.obj A4.out)
            replace l4 := Nat.lt_of_lt_of_le l4 gx.size
            replace A5 := hid (gx.obj A5.out)
            replace l5 := Nat.lt_of_lt_of_le l5 gx.size
            clear own3 hab3 gx hsz3
            refine wpAnyH_ready (rs := [6]) (by kernel_rfl) (by simp) (AllReadyH.cons (o := { dst := none, op := Go.Op.store 29 (Go.Operand.tmp 5) (Go.Operand.tmp 28), type := 0, pos := "law.go:218", after := #[{ on := 4, ground := Go.Ground.data }, { on := 1, ground := Go.Ground.data }, { on := 3, ground := Go.Ground.chain }, { on := 0, ground := Go.Ground.phase }, { on := 1, ground := Go.Ground.phase }, { on := 2, ground := Go.Ground.textOnly Go.Departure.lateStores }, { on := 3, ground := Go.Ground.textOnly Go.Departure.lateStoresUnsure }, { on := 4, ground := Go.Ground.phase }, { on := 5, ground := Go.Ground.phase }], guard := none }) rfl (fun K hK => ?_) AllReadyH.nil)
            have c6 := cell_of_row x3 pb4 0 _ _ _ A4.out
            simp only [List.getElem?_toArray, List.getElem?_cons_zero] at c6
            have f6 : ∀ j, x3.frozen? ⟨pb4, j, none⟩ = false := fun j => frozen_of_row _ _ _ _ _ A4.out
            go_simp
            refine hK.out _ _ (KS.out _ (hHeld.2.2.2.2.2.2.setCell WP4 _)) (fun hH2 => ?_)
            clear hHeld hK K
            have hHeld := hH2
            clear hH2
            try simp only [Act.put, List.setIfInBounds_toArray, List.set_cons_zero, List.set_cons_succ]
            have C4 : Hid ((x3.setCell ⟨pb4, 0, none⟩ (.slice va1 bs1.length vc1)).cell? ⟨pb4, 0, none⟩ = some (.slice va1 bs1.length vc1)) := World.cell?_setCell_same _ _ _ c6
            replace P1 := hid (P1.out.set F14.out 0 (.slice va1 bs1.length vc1))
            replace P3 := hid (P3.out.set F34.out 0 (.slice va1 bs1.length vc1))
            replace A5 := hid ((Below.heap_setCell x3 ⟨pb4, 0, none⟩ (.slice va1 bs1.length vc1) pb5 (fun e => by simp at e <;> omega)).trans A5.out)
            clear c6 f6
            generalize x3.setCell ⟨pb4, 0, none⟩ (.slice va1 bs1.length vc1) = x6 at *
            refine wpAnyH_ready (rs := [7]) (by kernel_rfl) (by simp) (AllReadyH.cons (o := { dst := none, op := Go.Op.store 29 (Go.Operand.tmp 6) (Go.Operand.tmp 30), type := 0, pos := "law.go:218", after := #[{ on := 5, ground := Go.Ground.data }, { on := 3, ground := Go.Ground.data }, { on := 6, ground := Go.Ground.chain }, { on := 0, ground := Go.Ground.phase }, { on := 1, ground := Go.Ground.phase }, { on := 2, ground := Go.Ground.phase }, { on := 3, ground := Go.Ground.phase }, { on := 4, ground := Go.Ground.phase }, { on := 5, ground := Go.Ground.phase }, { on := 6, ground := Go.Ground.phase }], guard := none }) rfl (fun K hK => ?_) AllReadyH.nil)
            have c7 := cell_of_row x6 pb5 0 _ _ _ A5.out
            simp only [List.getElem?_toArray, List.getElem?_cons_zero] at c7
            have f7 : ∀ j, x6.frozen? ⟨pb5, j, none⟩ = false := fun j => frozen_of_row _ _ _ _ _ A5.out
            go_simp
            refine hK.out _ _ (KS.out _ (hHeld.2.2.2.2.2.2.setCell WP5 _)) (fun hH2 => ?_)
            clear hHeld hK K
            have hHeld := hH2
            clear hH2
            try simp only [Act.put, List.setIfInBounds_toArray, List.set_cons_zero, List.set_cons_succ]
            have C5 : Hid ((x6.setCell ⟨pb5, 0, none⟩ (.slice va3 bs3.length vc3)).cell? ⟨pb5, 0, none⟩ = some (.slice va3 bs3.length vc3)) := World.cell?_setCell_same _ _ _ c7
            replace P1 := hid (P1.out.set F15.out 0 (.slice va3 bs3.length vc3))
            replace P3 := hid (P3.out.set F35.out 0 (.slice va3 bs3.length vc3))
            replace C4 := hid ((World.cell?_setCell_other x6 ⟨pb5, 0, none⟩ ⟨pb4, 0, none⟩ (.slice va3 bs3.length vc3) (fun e => by simp at e <;> omega)).trans C4.out)
            clear c7 f7
            generalize x6.setCell ⟨pb5, 0, none⟩ (.slice va3 bs3.length vc3) = x7 at *
            refine wpAnyH_done (by kernel_rfl) (NoPanic.normal ?_) _
            go_simp
            go_wp2_with fail
            go_meet
            exact ⟨pb4, pb5, _, _, _, _, _, _, rfl, rfl, ⟨hHeld.2.2.2.2.2.2, P1.out, P3.out, C4.out, C5.out, fun k hk => ⟨(SEP.out k hk).1, (SEP.out k hk).2.1, fun e => F34.out.1 (e ▸ hk), fun e => F35.out.1 (e ▸ hk), (SEP.out k hk).2.2⟩, fun k hk => ⟨SEQ.out k hk, SE1.out k hk, fun e => F14.out.1 (e ▸ hk), fun e => F15.out.1 (e ▸ hk)⟩⟩⟩
        · have WP5 : w3.heap.size ≤ x1.heap.size := (hHeld.2.2.2.2.2.2).size
          go_simp
          refine hK.out _ _ (KS.out _ (hHeld.2.2.2.2.2.2.alloc _)) (fun hH2 => ?_)
          clear hHeld hK K
          have hHeld := hH2
          clear hH2
          try simp only [Act.put, List.setIfInBounds_toArray, List.set_cons_zero, List.set_cons_succ]
          have gx := (Gr.refl x1).alloc (.cells #[.slice none 0 0] 29)
          have A5 := hid (heap_alloc_new x1 (.cells #[.slice none 0 0] 29))
          have l5 : x1.heap.size < (x1.alloc (.cells #[.slice none 0 0] 29)).heap.size := by simp
          have F15 := hid (N1.out x1.heap.size (.inr m1))
          replace P1 := hid (P1.out.gr gx)
          replace m1 := Nat.le_trans m1 gx.size
          clear gx
          generalize x1.alloc (.cells #[.slice none 0 0] 29) = x5 at *
          generalize x1.heap.size = pb5 at *
          refine wpAnyH_ready (rs := [3, 4]) (by kernel_rfl) (by simp) (AllReadyH.cons (o := { dst := some 30, op := Go.Op.call { callee := Go.Callee.value (Go.Operand.func 9), args := #[Go.Operand.tmp 29], argTypes := #[24] }, type := 29, pos := "law.go:218", after := #[{ on := 2, ground := Go.Ground.data }, { on := 1, ground := Go.Ground.chain }], guard := none }) rfl (fun K hK => ?_) (AllReadyH.cons (o := { dst := some 5, op := Go.Op.alloc 29, type := 0, pos := "law.go:218", after := #[], guard := none }) rfl (fun K hK => ?_) AllReadyH.nil))
          · have hsz3 : w3.heap.size ≤ x5.heap.size := (hHeld.2.2.2.2.2.2).size
            go_simp
            go_at_call 9
            refine (HPT.out _ hHeld.2.2.2.2.2.2).mono ?_
            rintro e x3 ⟨v3, bp3, bs3, rfl, own3, hab3, gx⟩
            obtain ⟨va3, vc3, hv3⟩ := own3.b.shape
            subst hv3
            refine hK.out _ _ (KS.out _ (hHeld.2.2.2.2.2.2.trans gx)) (fun hH2 => ?_)
            clear hHeld hK K
            have hHeld := hH2
            clear hH2
            try simp only [Act.put, List.setIfInBounds_toArray, List.set_cons_zero, List.set_cons_succ]
            have P3 := hid (own_pl own3 hab3)
            have N3 := hid (own_off own3)
            have m3 : x3.heap.size ≤ x3.heap.size := Nat.le_refl _
            have SEP := hid (show ∀ k ∈ blks (.slice va3 bs3.length vc3), Off k (.slice va1 bs1.length vc1) bs1 ∧ w3.heap.size ≤ k ∧ ∀ B ∈ bs3, ¬ k ∈ blks B.iv from fun k hk => ⟨P1.out.off k (own3.o k hk).1, Nat.le_trans hsz3 (own3.o k hk).1, fun B hB hx => (own3.q B hB k hx).2.2 hk⟩)
            have SEQ := hid (show ∀ k ∈ blks (.slice va1 bs1.length vc1), Off k (.slice va3 bs3.length vc3) bs3 from fun k hk => N3.out k (.inl (P1.out.ok.b.lt k hk)))
            have F35 := hid (N3.out pb5 (.inl l5))
            replace P1 := hid (P1.out.gr gx)
            replace m1 := Nat.le_trans m1 gx.size
            replace A5 := hid (gx.obj A5.out)
            replace l5 := Nat.lt_of_lt_of_le l5 gx.size
            clear own3 hab3 gx hsz3
            refine wpAnyH_ready (rs := [4]) (by kernel_rfl) (by simp) (AllReadyH.cons (o := { dst := some 5, op := Go.Op.alloc 29, type := 0, pos := "law.go:218", after := #[], guard := none }) rfl (fun K hK => ?_) AllReadyH.nil)
            have WP4 : w3.heap.size ≤ x3.heap.size := (hHeld.2.2.2.2.2.2).size
            go_simp
            refine hK.out _ _ (KS.out _ (hHeld.2.2.2.2.2.2.alloc _)) (fun hH2 => ?_)
            clear hHeld hK K
            have hHeld := hH2
            clear hH2
            try simp only [Act.put, List.setIfInBounds_toArray, List.set_cons_zero, List.set_cons_succ]
            have gx := (Gr.refl x3).alloc (.cells #[.slice none 0 0] 29)
            have A4 := hid (heap_alloc_new x3 (.cells #[.slice none 0 0] 29))
            have l4 : x3.heap.size < (x3.alloc (.cells #[.slice none 0 0] 29)).heap.size := by simp
            have F14 := hid (N1.out x3.heap.size (.inr m1))
            have F34 := hid (N3.out x3.heap.size (.inr m3))
            have D45 : ¬ pb5 = x3.heap.size := by omega
            replace P1 := hid (P1.out.gr gx)
            replace m1 := Nat.le_trans m1 gx.size
            replace P3 := hid (P3.out.gr gx)
            replace m3 := Nat.le_trans m3 gx.size
            replace A5 := hid (gx.obj A5.out)
            replace l5 := Nat.lt_of_lt_of_le l5 gx.size
            clear gx
            generalize x3.alloc (.cells #[.slice none 0 0] 29) = x4 at *
            generalize x3.heap.size = pb4 at *
            refine wpAnyH_ready (rs := [6]) (by kernel_rfl) (by simp) (AllReadyH.cons (o := { dst := none, op := Go.Op.store 29 (Go.Operand.tmp 5) (Go.Operand.tmp 28), type := 0, pos := "law.go:218", after := #[{ on := 4, ground := Go.Ground.data }, { on := 1, ground := Go.Ground.data }, { on := 3, ground := Go.Ground.chain }, { on := 0, ground := Go.Ground.phase }, { on := 1, ground := Go.Ground.phase }, { on := 2, ground := Go.Ground.textOnly Go.Departure.lateStores }, { on := 3, ground := Go.Ground.textOnly Go.Departure.lateStoresUnsure }, { on := 4, ground := Go.Ground.phase }, { on := 5, ground := Go.Ground.phase }], guard := none }) rfl (fun K hK => ?_) AllReadyH.nil)
            have c6 := cell_of_row x4 pb4 0 _ _ _ A4.out
            simp only [List.getElem?_toArray, List.getElem?_cons_zero] at c6
            have f6 : ∀ j, x4.frozen? ⟨pb4, j, none⟩ = false := fun j => frozen_of_row _ _ _ _ _ A4.out
            go_simp
            refine hK.out _ _ (KS.out _ (hHeld.2.2.2.2.2.2.setCell WP4 _)) (fun hH2 => ?_)
            clear hHeld hK K
            have hHeld := hH2
            clear hH2
            try simp only [Act.put, List.setIfInBounds_toArray, List.set_cons_zero, List.set_cons_succ]
            have C4 : Hid ((x4.setCell ⟨pb4, 0, none⟩ (.slice va1 bs1.length vc1)).cell? ⟨pb4, 0, none⟩ = some (.slice va1 bs1.length vc1)) := World.cell?_setCell_same _ _ _ c6
            replace P1 := hid (P1.out.set F14.out 0 (.slice va1 bs1.length vc1))
            replace P3 := hid (P3.out.set F34.out 0 (.slice va1 bs1.length vc1))
            replace A5 := hid ((Below.heap_setCell x4 ⟨pb4, 0, none⟩ (.slice va1 bs1.length vc1) pb5 (fun e => by simp at e <;> omega)).trans A5.out)
            clear c6 f6
            generalize x4.setCell ⟨pb4, 0, none⟩ (.slice va1 bs1.length vc1) = x6 at *
            refine wpAnyH_ready (rs := [7]) (by kernel_rfl) (by simp) (AllReadyH.cons (o := { dst := none, op := Go.Op.store 29 (Go.Operand.tmp 6) (Go.Operand.tmp 30), type := 0, pos := "law.go:218", after := #[{ on := 5, ground := Go.Ground.data }, { on := 3, ground := Go.Ground.data }, { on := 6, ground := Go.Ground.chain }, { on := 0, ground := Go.Ground.phase }, { on := 1, ground := Go.Ground.phase }, { on := 2, ground := Go.Ground.phase }, { on := 3, ground := Go.Ground.phase }, { on := 4, ground := Go.Ground.phase }, { on := 5, ground := Go.Ground.phase }, { on := 6, ground := Go.Ground.phase }], guard := none }) rfl (fun K hK => ?_) AllReadyH.nil)
            have c7 := cell_of_row x6 pb5 0 _ _ _ A5.out
            simp only [List.getElem?_toArray, List.getElem?_cons_zero] at c7
            have f7 : ∀ j, x6.frozen? ⟨pb5, j, none⟩ = false := fun j => frozen_of_row _ _ _ _ _ A5.out
            go_simp
            refine hK.out _ _ (KS.out _ (hHeld.2.2.2.2.2.2.setCell WP5 _)) (fun hH2 => ?_)
            clear hHeld hK K
            have hHeld := hH2
            clear hH2
            try simp only [Act.put, List.setIfInBounds_toArray, List.set_cons_zero, List.set_cons_succ]
            have C5 : Hid ((x6.setCell ⟨pb5, 0, none⟩ (.slice va3 bs3.length vc3)).cell? ⟨pb5, 0, none⟩ = some (.slice va3 bs3.length vc3)) := World.cell?_setCell_same _ _ _ c7
            replace P1 := hid (P1.out.set F15.out 0 (.slice va3 bs3.length vc3))
            replace P3 := hid (P3.out.set F35.out 0 (.slice va3 bs3.length vc3))
            replace C4 := hid ((World.cell?_setCell_other x6 ⟨pb5, 0, none⟩ ⟨pb4, 0, none⟩ (.slice va3 bs3.length vc3) (fun e => by simp at e <;> omega)).trans C4.out)
            clear c7 f7
            generalize x6.setCell ⟨pb5, 0, none⟩ (.slice va3 bs3.length vc3) = x7 at *
            refine wpAnyH_done (by kernel_rfl) (NoPanic.normal ?_) _
            go_simp
            go_wp2_with fail
            go_meet
            exact ⟨pb4, pb5, _, _, _, _, _, _, rfl, rfl, ⟨hHeld.2.2.2.2.2.2, P1.out, P3.out, C4.out, C5.out, fun k hk => ⟨(SEP.out k hk).1, (SEP.out k hk).2.1, fun e => F34.out.1 (e ▸ hk), fun e => F35.out.1 (e ▸ hk), (SEP.out k hk).2.2⟩, fun k hk => ⟨SEQ.out k hk, SE1.out k hk, fun e => F14.out.1 (e ▸ hk), fun e => F15.out.1 (e ▸ hk)⟩⟩⟩
          · have WP4 : w3.heap.size ≤ x5.heap.size := (hHeld.2.2.2.2.2.2).size
            go_simp
            refine hK.out _ _ (KS.out _ (hHeld.2.2.2.2.2.2.alloc _)) (fun hH2 => ?_)
            clear hHeld hK K
            have hHeld := hH2
            clear hH2
            try simp only [Act.put, List.setIfInBounds_toArray, List.set_cons_zero, List.set_cons_succ]
            have gx := (Gr.refl x5).alloc (.cells #[.slice none 0 0] 29)
            have A4 := hid (heap_alloc_new x5 (.cells #[.slice none 0 0] 29))
            have l4 : x5.heap.size < (x5.alloc (.cells #[.slice none 0 0] 29)).heap.size := by simp
            have F14 := hid (N1.out x5.heap.size (.inr m1))
            have D45 : ¬ pb5 = x5.heap.size := by omega
            replace P1 := hid (P1.out.gr gx)
            replace m1 := Nat.le_trans m1 gx.size
            replace A5 := hid (gx.obj A5.out)
            replace l5 := Nat.lt_of_lt_of_le l5 gx.size
            clear gx
            generalize x5.alloc (.cells #[.slice none 0 0] 29) = x4 at *
            generalize x5.heap.size = pb4 at *
            refine wpAnyH_ready (rs := [3]) (by kernel_rfl) (by simp) (AllReadyH.cons (o := { dst := some 30, op := Go.Op.call { callee := Go.Callee.value (Go.Operand.func 9), args := #[Go.Operand.tmp 29], argTypes := #[24] }, type := 29, pos := "law.go:218", after := #[{ on := 2, ground := Go.Ground.data }, { on := 1, ground := Go.Ground.chain }], guard := none }) rfl (fun K hK => ?_) AllReadyH.nil)
            have hsz3 : w3.heap.size ≤ x4.heap.size := (hHeld.2.2.2.2.2.2).size
            go_simp
            go_at_call 9
            refine (HPT.out _ hHeld.2.2.2.2.2.2).mono ?_
            rintro e x3 ⟨v3, bp3, bs3, rfl, own3, hab3, gx⟩
            obtain ⟨va3, vc3, hv3⟩ := own3.b.shape
            subst hv3
            refine hK.out _ _ (KS.out _ (hHeld.2.2.2.2.2.2.trans gx)) (fun hH2 => ?_)
            clear hHeld hK K
            have hHeld := hH2
            clear hH2
            try simp only [Act.put, List.setIfInBounds_toArray, List.set_cons_zero, List.set_cons_succ]
            have P3 := hid (own_pl own3 hab3)
            have N3 := hid (own_off own3)
            have m3 : x3.heap.size ≤ x3.heap.size := Nat.le_refl _
            have SEP := hid (show ∀ k ∈ blks (.slice va3 bs3.length vc3), Off k (.slice va1 bs1.length vc1) bs1 ∧ w3.heap.size ≤ k ∧ ∀ B ∈ bs3, ¬ k ∈ blks B.iv from fun k hk => ⟨P1.out.off k (own3.o k hk).1, Nat.le_trans hsz3 (own3.o k hk).1, fun B hB hx => (own3.q B hB k hx).2.2 hk⟩)
            have SEQ := hid (show ∀ k ∈ blks (.slice va1 bs1.length vc1), Off k (.slice va3 bs3.length vc3) bs3 from fun k hk => N3.out k (.inl (P1.out.ok.b.lt k hk)))
            have F35 := hid (N3.out pb5 (.inl l5))
            have F34 := hid (N3.out pb4 (.inl l4))
            replace P1 := hid (P1.out.gr gx)
            replace m1 := Nat.le_trans m1 gx.size
            replace A5 := hid (gx.obj A5.out)
            replace l5 := Nat.lt_of_lt_of_le l5 gx.size
            replace A4 := hid (gx.obj A4.out)
            replace l4 := Nat.lt_of_lt_of_le l4 gx.size
            clear own3 hab3 gx hsz3
            refine wpAnyH_ready (rs := [6]) (by kernel_rfl) (by simp) (AllReadyH.cons (o := { dst := none, op := Go.Op.store 29 (Go.Operand.tmp 5) (Go.Operand.tmp 28), type := 0, pos := "law.go:218", after := #[{ on := 4, ground := Go.Ground.data }, { on := 1, ground := Go.Ground.data }, { on := 3, ground := Go.Ground.chain }, { on := 0, ground := Go.Ground.phase }, { on := 1, ground := Go.Ground.phase }, { on := 2, ground := Go.Ground.textOnly Go.Departure.lateStores }, { on := 3, ground := Go.Ground.textOnly Go.Departure.lateStoresUnsure }, { on := 4, ground := Go.Ground.phase }, { on := 5, ground := Go.Ground.phase }], guard := none }) rfl (fun K hK => ?_) AllReadyH.nil)
            have c6 := cell_of_row x3 pb4 0 _ _ _ A4.out
            simp only [List.getElem?_toArray, List.getElem?_cons_zero] at c6
            have f6 : ∀ j, x3.frozen? ⟨pb4, j, none⟩ = false := fun j => frozen_of_row _ _ _ _ _ A4.out
            go_simp
            refine hK.out _ _ (KS.out _ (hHeld.2.2.2.2.2.2.setCell WP4 _)) (fun hH2 => ?_)
            clear hHeld hK K
            have hHeld := hH2
            clear hH2
            try simp only [Act.put, List.setIfInBounds_toArray, List.set_cons_zero, List.set_cons_succ]
            have C4 : Hid ((x3.setCell ⟨pb4, 0, none⟩ (.slice va1 bs1.length vc1)).cell? ⟨pb4, 0, none⟩ = some (.slice va1 bs1.length vc1)) := World.cell?_setCell_same _ _ _ c6
            replace P1 := hid (P1.out.set F14.out 0 (.slice va1 bs1.length vc1))
            replace P3 := hid (P3.out.set F34.out 0 (.slice va1 bs1.length vc1))
            replace A5 := hid ((Below.heap_setCell x3 ⟨pb4, 0, none⟩ (.slice va1 bs1.length vc1) pb5 (fun e => by simp at e <;> omega)).trans A5.out)
            clear c6 f6
            generalize x3.setCell ⟨pb4, 0, none⟩ (.slice va1 bs1.length vc1) = x6 at *
            refine wpAnyH_ready (rs := [7]) (by kernel_rfl) (by simp) (AllReadyH.cons (o := { dst := none, op := Go.Op.store 29 (Go.Operand.tmp 6) (Go.Operand.tmp 30), type := 0, pos := "law.go:218", after := #[{ on := 5, ground := Go.Ground.data }, { on := 3, ground := Go.Ground.data }, { on := 6, ground := Go.Ground.chain }, { on := 0, ground := Go.Ground.phase }, { on := 1, ground := Go.Ground.phase }, { on := 2, ground := Go.Ground.phase }, { on := 3, ground := Go.Ground.phase }, { on := 4, ground := Go.Ground.phase }, { on := 5, ground := Go.Ground.phase }, { on := 6, ground := Go.Ground.phase }], guard := none }) rfl (fun K hK => ?_) AllReadyH.nil)
            have c7 := cell_of_row x6 pb5 0 _ _ _ A5.out
            simp only [List.getElem?_toArray, List.getElem?_cons_zero] at c7
            have f7 : ∀ j, x6.frozen? ⟨pb5, j, none⟩ = false := fun j => frozen_of_row _ _ _ _ _ A5.out
            go_simp
            refine hK.out _ _ (KS.out _ (hHeld.2.2.2.2.2.2.setCell WP5 _)) (fun hH2 => ?_)
            clear hHeld hK K
            have hHeld := hH2
            clear hH2
            try simp only [Act.put, List.setIfInBounds_toArray, List.set_cons_zero, List.set_cons_succ]
            have C5 : Hid ((x6.setCell ⟨pb5, 0, none⟩ (.slice va3 bs3.length vc3)).cell? ⟨pb5, 0, none⟩ = some (.slice va3 bs3.length vc3)) := World.cell?_setCell_same _ _ _ c7
            replace P1 := hid (P1.out.set F15.out 0 (.slice va3 bs3.length vc3))
            replace P3 := hid (P3.out.set F35.out 0 (.slice va3 bs3.length vc3))
            replace C4 := hid ((World.cell?_setCell_other x6 ⟨pb5, 0, none⟩ ⟨pb4, 0, none⟩ (.slice va3 bs3.length vc3) (fun e => by simp at e <;> omega)).trans C4.out)
            clear c7 f7
            generalize x6.setCell ⟨pb5, 0, none⟩ (.slice va3 bs3.length vc3) = x7 at *
            refine wpAnyH_done (by kernel_rfl) (NoPanic.normal ?_) _
            go_simp
            go_wp2_with fail
            go_meet
            exact ⟨pb4, pb5, _, _, _, _, _, _, rfl, rfl, ⟨hHeld.2.2.2.2.2.2, P1.out, P3.out, C4.out, C5.out, fun k hk => ⟨(SEP.out k hk).1, (SEP.out k hk).2.1, fun e => F34.out.1 (e ▸ hk), fun e => F35.out.1 (e ▸ hk), (SEP.out k hk).2.2⟩, fun k hk => ⟨SEQ.out k hk, SE1.out k hk, fun e => F14.out.1 (e ▸ hk), fun e => F15.out.1 (e ▸ hk)⟩⟩⟩
      · have WP4 : w3.heap.size ≤ x0.heap.size := (hHeld.2.2.2.2.2.2).size
        go_simp
        refine hK.out _ _ (KS.out _ (hHeld.2.2.2.2.2.2.alloc _)) (fun hH2 => ?_)
        clear hHeld hK K
        have hHeld := hH2
        clear hH2
        try simp only [Act.put, List.setIfInBounds_toArray, List.set_cons_zero, List.set_cons_succ]
        have gx := (Gr.refl x0).alloc (.cells #[.slice none 0 0] 29)
        have A4 := hid (heap_alloc_new x0 (.cells #[.slice none 0 0] 29))
        have l4 : x0.heap.size < (x0.alloc (.cells #[.slice none 0 0] 29)).heap.size := by simp
        clear gx
        generalize x0.alloc (.cells #[.slice none 0 0] 29) = x4 at *
        generalize x0.heap.size = pb4 at *
        refine wpAnyH_ready (rs := [1, 5]) (by kernel_rfl) (by simp) (AllReadyH.cons (o := { dst := some 28, op := Go.Op.call { callee := Go.Callee.value (Go.Operand.func 9), args := #[Go.Operand.tmp 27], argTypes := #[24] }, type := 29, pos := "law.go:218", after := #[{ on := 0, ground := Go.Ground.data }], guard := none }) rfl (fun K hK => ?_) (AllReadyH.cons (o := { dst := some 6, op := Go.Op.alloc 29, type := 0, pos := "law.go:218", after := #[], guard := none }) rfl (fun K hK => ?_) AllReadyH.nil))
        · have hsz1 : w3.heap.size ≤ x4.heap.size := (hHeld.2.2.2.2.2.2).size
          go_simp
          go_at_call 9
          refine (HPS.out _ hHeld.2.2.2.2.2.2).mono ?_
          rintro e x1 ⟨v1, bp1, bs1, rfl, own1, hab1, gx⟩
          obtain ⟨va1, vc1, hv1⟩ := own1.b.shape
          subst hv1
          refine hK.out _ _ (KS.out _ (hHeld.2.2.2.2.2.2.trans gx)) (fun hH2 => ?_)
          clear hHeld hK K
          have hHeld := hH2
          clear hH2
          try simp only [Act.put, List.setIfInBounds_toArray, List.set_cons_zero, List.set_cons_succ]
          have P1 := hid (own_pl own1 hab1)
          have N1 := hid (own_off own1)
          have m1 : x1.heap.size ≤ x1.heap.size := Nat.le_refl _
          have SE1 := hid (show ∀ k ∈ blks (.slice va1 bs1.length vc1), w3.heap.size ≤ k ∧ ∀ B ∈ bs1, ¬ k ∈ blks B.iv from fun k hk => ⟨Nat.le_trans hsz1 (own1.o k hk).1, fun B hB hx => (own1.q B hB k hx).2.2 hk⟩)
          have F14 := hid (N1.out pb4 (.inl l4))
          replace A4 := hid (gx.obj A4.out)
          replace l4 := Nat.lt_of_lt_of_le l4 gx.size
          clear own1 hab1 gx hsz1
          refine wpAnyH_ready (rs := [3, 5]) (by kernel_rfl) (by simp) (AllReadyH.cons (o := { dst := some 30, op := Go.Op.call { callee := Go.Callee.value (Go.Operand.func 9), args := #[Go.Operand.tmp 29], argTypes := #[24] }, type := 29, pos := "law.go:218", after := #[{ on := 2, ground := Go.Ground.data }, { on := 1, ground := Go.Ground.chain }], guard := none }) rfl (fun K hK => ?_) (AllReadyH.cons (o := { dst := some 6, op := Go.Op.alloc 29, type := 0, pos := "law.go:218", after := #[], guard := none }) rfl (fun K hK => ?_) AllReadyH.nil))
          · have hsz3 : w3.heap.size ≤ x1.heap.size := (hHeld.2.2.2.2.2.2).size
            go_simp
            go_at_call 9
            refine (HPT.out _ hHeld.2.2.2.2.2.2).mono ?_
            rintro e x3 ⟨v3, bp3, bs3, rfl, own3, hab3, gx⟩
            obtain ⟨va3, vc3, hv3⟩ := own3.b.shape
            subst hv3
            refine hK.out _ _ (KS.out _ (hHeld.2.2.2.2.2.2.trans gx)) (fun hH2 => ?_)
            clear hHeld hK K
            have hHeld := hH2
            clear hH2
            try simp only [Act.put, List.setIfInBounds_toArray, List.set_cons_zero, List.set_cons_succ]
            have P3 := hid (own_pl own3 hab3)
            have N3 := hid (own_off own3)
            have m3 : x3.heap.size ≤ x3.heap.size := Nat.le_refl _
            have SEP := hid (show ∀ k ∈ blks (.slice va3 bs3.length vc3), Off k (.slice va1 bs1.length vc1) bs1 ∧ w3.heap.size ≤ k ∧ ∀ B ∈ bs3, ¬ k ∈ blks B.iv from fun k hk => ⟨P1.out.off k (own3.o k hk).1, Nat.le_trans hsz3 (own3.o k hk).1, fun B hB hx => (own3.q B hB k hx).2.2 hk⟩)
            have SEQ := hid (show ∀ k ∈ blks (.slice va1 bs1.length vc1), Off k (.slice va3 bs3.length vc3) bs3 from fun k hk => N3.out k (.inl (P1.out.ok.b.lt k hk)))
            have F34 := hid (N3.out pb4 (.inl l4))
            replace P1 := hid (P1.out.gr gx)
            replace m1 := Nat.le_trans m1 gx.size
            replace A4 := hid (gx.obj A4.out)
            replace l4 := Nat.lt_of_lt_of_le l4 gx.size
            clear own3 hab3 gx hsz3
            refine wpAnyH_ready (rs := [5]) (by kernel_rfl) (by simp) (AllReadyH.cons (o := { dst := some 6, op := Go.Op.alloc 29, type := 0, pos := "law.go:218", after := #[], guard := none }) rfl (fun K hK => ?_) AllReadyH.nil)
            have WP5 : w3.heap.size ≤ x3.heap.size := (hHeld.2.2.2.2.2.2).size
            go_simp
            refine hK.out _ _ (KS.out _ (hHeld.2.2.2.2.2.2.alloc _)) (fun hH2 => ?_)
            clear hHeld hK K
            have hHeld := hH2
            clear hH2
            try simp only [Act.put, List.setIfInBounds_toArray, List.set_cons_zero, List.set_cons_succ]
            have gx := (Gr.refl x3).alloc (.cells #[.slice none 0 0] 29)
            have A5 := hid (heap_alloc_new x3 (.cells #[.slice none 0 0] 29))
            have l5 : x3.heap.size < (x3.alloc (.cells #[.slice none 0 0] 29)).heap.size := by simp
            have F15 := hid (N1.out x3.heap.size (.inr m1))
            have F35 := hid (N3.out x3.heap.size (.inr m3))
            have D45 : ¬ pb4 = x3.heap.size := by omega
            replace P1 := hid (P1.out.gr gx)
            replace m1 := Nat.le_trans m1 gx.size
            replace P3 := hid (P3.out.gr gx)
            replace m3 := Nat.le_trans m3 gx.size
            replace A4 := hid (gx.obj A4.out)
            replace l4 := Nat.lt_of_lt_of_le l4 gx.size
            clear gx
            generalize x3.alloc (.cells #[.slice none 0 0] 29) = x5 at *
            generalize x3.heap.size = pb5 at *
            refine wpAnyH_ready (rs := [6]) (by kernel_rfl) (by simp) (AllReadyH.cons (o := { dst := none, op := Go.Op.store 29 (Go.Operand.tmp 5) (Go.Operand.tmp 28), type := 0, pos := "law.go:218", after := #[{ on := 4, ground := Go.Ground.data }, { on := 1, ground := Go.Ground.data }, { on := 3, ground := Go.Ground.chain }, { on := 0, ground := Go.Ground.phase }, { on := 1, ground := Go.Ground.phase }, { on := 2, ground := Go.Ground.textOnly Go.Departure.lateStores }, { on := 3, ground := Go.Ground.textOnly Go.Departure.lateStoresUnsure }, { on := 4, ground := Go.Ground.phase }, { on := 5, ground := Go.Ground.phase }], guard := none }) rfl (fun K hK => ?_) AllReadyH.nil)
            have c6 := cell_of_row x5 pb4 0 _ _ _ A4.out
            simp only [List.getElem?_toArray, List.getElem?_cons_zero] at c6
            have f6 : ∀ j, x5.frozen? ⟨pb4, j, none⟩ = false := fun j => frozen_of_row _ _ _ _ _ A4.out
            go_simp
            refine hK.out _ _ (KS.out _ (hHeld.2.2.2.2.2.2.setCell WP4 _)) (fun hH2 => ?_)
            clear hHeld hK K
            have hHeld := hH2
            clear hH2
            try simp only [Act.put, List.setIfInBounds_toArray, List.set_cons_zero, List.set_cons_succ]
            have C4 : Hid ((x5.setCell ⟨pb4, 0, none⟩ (.slice va1 bs1.length vc1)).cell? ⟨pb4, 0, none⟩ = some (.slice va1 bs1.length vc1)) := World.cell?_setCell_same _ _ _ c6
            replace P1 := hid (P1.out.set F14.out 0 (.slice va1 bs1.length vc1))
            replace P3 := hid (P3.out.set F34.out 0 (.slice va1 bs1.length vc1))
            replace A5 := hid ((Below.heap_setCell x5 ⟨pb4, 0, none⟩ (.slice va1 bs1.length vc1) pb5 (fun e => by simp at e <;> omega)).trans A5.out)
            clear c6 f6
            generalize x5.setCell ⟨pb4, 0, none⟩ (.slice va1 bs1.length vc1) = x6 at *
            refine wpAnyH_ready (rs := [7]) (by kernel_rfl) (by simp) (AllReadyH.cons (o := { dst := none, op := Go.Op.store 29 (Go.Operand.tmp 6) (Go.Operand.tmp 30), type := 0, pos := "law.go:218", after := #[{ on := 5, ground := Go.Ground.data }, { on := 3, ground := Go.Ground.data }, { on := 6, ground := Go.Ground.chain }, { on := 0, ground := Go.Ground.phase }, { on := 1, ground := Go.Ground.phase }, { on := 2, ground := Go.Ground.phase }, { on := 3, ground := Go.Ground.phase }, { on := 4, ground := Go.Ground.phase }, { on := 5, ground := Go.Ground.phase }, { on := 6, ground := Go.Ground.phase }], guard := none }) rfl (fun K hK => ?_) AllReadyH.nil)
            have c7 := cell_of_row x6 pb5 0 _ _ _ A5.out
            simp only [List.getElem?_toArray, List.getElem?_cons_zero] at c7
            have f7 : ∀ j, x6.frozen? ⟨pb5, j, none⟩ = false := fun j => frozen_of_row _ _ _ _ _ A5.out
            go_simp
            refine hK.out _ _ (KS.out _ (hHeld.2.2.2.2.2.2.setCell WP5 _)) (fun hH2 => ?_)
            clear hHeld hK K
            have hHeld := hH2
            clear hH2
            try simp only [Act.put, List.setIfInBounds_toArray, List.set_cons_zero, List.set_cons_succ]
            have C5 : Hid ((x6.setCell ⟨pb5, 0, none⟩ (.slice va3 bs3.length vc3)).cell? ⟨pb5, 0, none⟩ = some (.slice va3 bs3.length vc3)) := World.cell?_setCell_same _ _ _ c7
            replace P1 := hid (P1.out.set F15.out 0 (.slice va3 bs3.length vc3))
            replace P3 := hid (P3.out.set F35.out 0 (.slice va3 bs3.length vc3))
            replace C4 := hid ((World.cell?_setCell_other x6 ⟨pb5, 0, none⟩ ⟨pb4, 0, none⟩ (.slice va3 bs3.length vc3) (fun e => by simp at e <;> omega)).trans C4.out)
            clear c7 f7
            generalize x6.setCell ⟨pb5, 0, none⟩ (.slice va3 bs3.length vc3) = x7 at *
            refine wpAnyH_done (by kernel_rfl) (NoPanic.normal ?_) _
            go_simp
            go_wp2_with fail
            go_meet
            exact ⟨pb4, pb5, _, _, _, _, _, _, rfl, rfl, ⟨hHeld.2.2.2.2.2.2, P1.out, P3.out, C4.out, C5.out, fun k hk => ⟨(SEP.out k hk).1, (SEP.out k hk).2.1, fun e => F34.out.1 (e ▸ hk), fun e => F35.out.1 (e ▸ hk), (SEP.out k hk).2.2⟩, fun k hk => ⟨SEQ.out k hk, SE1.out k hk, fun e => F14.out.1 (e ▸ hk), fun e => F15.out.1 (e ▸ hk)⟩⟩⟩
          · have WP5 : w3.heap.size ≤ x1.heap.size := (hHeld.2.2.2.2.2.2).size
            go_simp
            refine hK.out _ _ (KS.out _ (hHeld.2.2.2.2.2.2.alloc _)) (fun hH2 => ?_)
            clear hHeld hK K
            have hHeld := hH2
            clear hH2
            try simp only [Act.put, List.setIfInBounds_toArray, List.set_cons_zero, List.set_cons_succ]
            have gx := (Gr.refl x1).alloc (.cells #[.slice none 0 0] 29)
            have A5 := hid (heap_alloc_new x1 (.cells #[.slice none 0 0] 29))
            have l5 : x1.heap.size < (x1.alloc (.cells #[.slice none 0 0] 29)).heap.size := by simp
            have F15 := hid (N1.out x1.heap.size (.inr m1))
            have D45 : ¬ pb4 = x1.heap.size := by omega
            replace P1 := hid (P1.out.gr gx)
            replace m1 := Nat.le_trans m1 gx.size
            replace A4 := hid (gx.obj A4.out)
            replace l4 := Nat.lt_of_lt_of_le l4 gx.size
            clear gx
            generalize x1.alloc (.cells #[.slice none 0 0] 29) = x5 at *
            generalize x1.heap.size = pb5 at *
            refine wpAnyH_ready (rs := [3]) (by kernel_rfl) (by simp) (AllReadyH.cons (o := { dst := some 30, op := Go.Op.call { callee := Go.Callee.value (Go.Operand.func 9), args := #[Go.Operand.tmp 29], argTypes := #[24] }, type := 29, pos := "law.go:218", after := #[{ on := 2, ground := Go.Ground.data }, { on := 1, ground := Go.Ground.chain }], guard := none }) rfl (fun K hK => ?_) AllReadyH.nil)
            have hsz3 : w3.heap.size ≤ x5.heap.size := (hHeld.2.2.2.2.2.2).size
            go_simp
            go_at_call 9
            refine (HPT.out _ hHeld.2.2.2.2.2.2).mono ?_
            rintro e x3 ⟨v3, bp3, bs3, rfl, own3, hab3, gx⟩
            obtain ⟨va3, vc3, hv3⟩ := own3.b.shape
            subst hv3
            refine hK.out _ _ (KS.out _ (hHeld.2.2.2.2.2.2.trans gx)) (fun hH2 => ?_)
            clear hHeld hK K
            have hHeld := hH2
            clear hH2
            try simp only [Act.put, List.setIfInBounds_toArray, List.set_cons_zero, List.set_cons_succ]
            have P3 := hid (own_pl own3 hab3)
            have N3 := hid (own_off own3)
            have m3 : x3.heap.size ≤ x3.heap.size := Nat.le_refl _
            have SEP := hid (show ∀ k ∈ blks (.slice va3 bs3.length vc3), Off k (.slice va1 bs1.length vc1) bs1 ∧ w3.heap.size ≤ k ∧ ∀ B ∈ bs3, ¬ k ∈ blks B.iv from fun k hk => ⟨P1.out.off k (own3.o k hk).1, Nat.le_trans hsz3 (own3.o k hk).1, fun B hB hx => (own3.q B hB k hx).2.2 hk⟩)
            have SEQ := hid (show ∀ k ∈ blks (.slice va1 bs1.length vc1), Off k (.slice va3 bs3.length vc3) bs3 from fun k hk => N3.out k (.inl (P1.out.ok.b.lt k hk)))
            have F34 := hid (N3.out pb4 (.inl l4))
            have F35 := hid (N3.out pb5 (.inl l5))
            replace P1 := hid (P1.out.gr gx)
            replace m1 := Nat.le_trans m1 gx.size
            replace A4 := hid (gx.obj A4.out)
            replace l4 := Nat.lt_of_lt_of_le l4 gx.size
            replace A5 := hid (gx.obj A5.out)
            replace l5 := Nat.lt_of_lt_of_le l5 gx.size
            clear own3 hab3 gx hsz3
            refine wpAnyH_ready (rs := [6]) (by kernel_rfl) (by simp) (AllReadyH.cons (o := { dst := none, op := Go.Op.store 29 (Go.Operand.tmp 5) (Go.Operand.tmp 28), type := 0, pos := "law.go:218", after := #[{ on := 4, ground := Go.Ground.data }, { on := 1, ground := Go.Ground.data }, { on := 3, ground := Go.Ground.chain }, { on := 0, ground := Go.Ground.phase }, { on := 1, ground := Go.Ground.phase }, { on := 2, ground := Go.Ground.textOnly Go.Departure.lateStores }, { on := 3, ground := Go.Ground.textOnly Go.Departure.lateStoresUnsure }, { on := 4, ground := Go.Ground.phase }, { on := 5, ground := Go.Ground.phase }], guard := none }) rfl (fun K hK => ?_) AllReadyH.nil)
            have c6 := cell_of_row x3 pb4 0 _ _ _ A4.out
            simp only [List.getElem?_toArray, List.getElem?_cons_zero] at c6
            have f6 : ∀ j, x3.frozen? ⟨pb4, j, none⟩ = false := fun j => frozen_of_row _ _ _ _ _ A4.out
            go_simp
            refine hK.out _ _ (KS.out _ (hHeld.2.2.2.2.2.2.setCell WP4 _)) (fun hH2 => ?_)
            clear hHeld hK K
            have hHeld := hH2
            clear hH2
            try simp only [Act.put, List.setIfInBounds_toArray, List.set_cons_zero, List.set_cons_succ]
            have C4 : Hid ((x3.setCell ⟨pb4, 0, none⟩ (.slice va1 bs1.length vc1)).cell? ⟨pb4, 0, none⟩ = some (.slice va1 bs1.length vc1)) := World.cell?_setCell_same _ _ _ c6
            replace P1 := hid (P1.out.set F14.out 0 (.slice va1 bs1.length vc1))
            replace P3 := hid (P3.out.set F34.out 0 (.slice va1 bs1.length vc1))
            replace A5 := hid ((Below.heap_setCell x3 ⟨pb4, 0, none⟩ (.slice va1 bs1.length vc1) pb5 (fun e => by simp at e <;> omega)).trans A5.out)
            clear c6 f6
            generalize x3.setCell ⟨pb4, 0, none⟩ (.slice va1 bs1.length vc1) = x6 at *
            refine wpAnyH_ready (rs := [7]) (by kernel_rfl) (by simp) (AllReadyH.cons (o := { dst := none, op := Go.Op.store 29 (Go.Operand.tmp 6) (Go.Operand.tmp 30), type := 0, pos := "law.go:218", after := #[{ on := 5, ground := Go.Ground.data }, { on := 3, ground := Go.Ground.data }, { on := 6, ground := Go.Ground.chain }, { on := 0, ground := Go.Ground.phase }, { on := 1, ground := Go.Ground.phase }, { on := 2, ground := Go.Ground.phase }, { on := 3, ground := Go.Ground.phase }, { on := 4, ground := Go.Ground.phase }, { on := 5, ground := Go.Ground.phase }, { on := 6, ground := Go.Ground.phase }], guard := none }) rfl (fun K hK => ?_) AllReadyH.nil)
            have c7 := cell_of_row x6 pb5 0 _ _ _ A5.out
            simp only [List.getElem?_toArray, List.getElem?_cons_zero] at c7
            have f7 : ∀ j, x6.frozen? ⟨pb5, j, none⟩ = false := fun j => frozen_of_row _ _ _ _ _ A5.out
            go_simp
            refine hK.out _ _ (KS.out _ (hHeld.2.2.2.2.2.2.setCell WP5 _)) (fun hH2 => ?_)
            clear hHeld hK K
            have hHeld := hH2
            clear hH2
            try simp only [Act.put, List.setIfInBounds_toArray, List.set_cons_zero, List.set_cons_succ]
            have C5 : Hid ((x6.setCell ⟨pb5, 0, none⟩ (.slice va3 bs3.length vc3)).cell? ⟨pb5, 0, none⟩ = some (.slice va3 bs3.length vc3)) := World.cell?_setCell_same _ _ _ c7
            replace P1 := hid (P1.out.set F15.out 0 (.slice va3 bs3.length vc3))
            replace P3 := hid (P3.out.set F35.out 0 (.slice va3 bs3.length vc3))
            replace C4 := hid ((World.cell?_setCell_other x6 ⟨pb5, 0, none⟩ ⟨pb4, 0, none⟩ (.slice va3 bs3.length vc3) (fun e => by simp at e <;> omega)).trans C4.out)
            clear c7 f7
            generalize x6.setCell ⟨pb5, 0, none⟩ (.slice va3 bs3.length vc3) = x7 at *
            refine wpAnyH_done (by kernel_rfl) (NoPanic.normal ?_) _
            go_simp
            go_wp2_with fail
            go_meet
            exact ⟨pb4, pb5, _, _, _, _, _, _, rfl, rfl, ⟨hHeld.2.2.2.2.2.2, P1.out, P3.out, C4.out, C5.out, fun k hk => ⟨(SEP.out k hk).1, (SEP.out k hk).2.1, fun e => F34.out.1 (e ▸ hk), fun e => F35.out.1 (e ▸ hk), (SEP.out k hk).2.2⟩, fun k hk => ⟨SEQ.out k hk, SE1.out k hk, fun e => F14.out.1 (e ▸ hk), fun e => F15.out.1 (e ▸ hk)⟩⟩⟩
        · have WP5 : w3.heap.size ≤ x4.heap.size := (hHeld.2.2.2.2.2.2).size
          go_simp
          refine hK.out _ _ (KS.out _ (hHeld.2.2.2.2.2.2.alloc _)) (fun hH2 => ?_)
          clear hHeld hK K
          have hHeld := hH2
          clear hH2
          try simp only [Act.put, List.setIfInBounds_toArray, List.set_cons_zero, List.set_cons_succ]
          have gx := (Gr.refl x4).alloc (.cells #[.slice none 0 0] 29)
          have A5 := hid (heap_alloc_new x4 (.cells #[.slice none 0 0] 29))
          have l5 : x4.heap.size < (x4.alloc (.cells #[.slice none 0 0] 29)).heap.size := by simp
          have D45 : ¬ pb4 = x4.heap.size := by omega
          replace A4 := hid (gx.obj A4.out)
          replace l4 := Nat.lt_of_lt_of_le l4 gx.size
          clear gx
          generalize x4.alloc (.cells #[.slice none 0 0] 29) = x5 at *
          generalize x4.heap.size = pb5 at *
          refine wpAnyH_ready (rs := [1]) (by kernel_rfl) (by simp) (AllReadyH.cons (o := { dst := some 28, op := Go.Op.call { callee := Go.Callee.value (Go.Operand.func 9), args := #[Go.Operand.tmp 27], argTypes := #[24] }, type := 29, pos := "law.go:218", after := #[{ on := 0, ground := Go.Ground.data }], guard := none }) rfl (fun K hK => ?_) AllReadyH.nil)
          have hsz1 : w3.heap.size ≤ x5.heap.size := (hHeld.2.2.2.2.2.2).size
          go_simp
          go_at_call 9
          refine (HPS.out _ hHeld.2.2.2.2.2.2).mono ?_
          rintro e x1 ⟨v1, bp1, bs1, rfl, own1, hab1, gx⟩
          obtain ⟨va1, vc1, hv1⟩ := own1.b.shape
          subst hv1
          refine hK.out _ _ (KS.out _ (hHeld.2.2.2.2.2.2.trans gx)) (fun hH2 => ?_)
          clear hHeld hK K
          have hHeld := hH2
          clear hH2
          try simp only [Act.put, List.setIfInBounds_toArray, List.set_cons_zero, List.set_cons_succ]
          have P1 := hid (own_pl own1 hab1)
          have N1 := hid (own_off own1)
          have m1 : x1.heap.size ≤ x1.heap.size := Nat.le_refl _
          have SE1 := hid (show ∀ k ∈ blks (.slice va1 bs1.length vc1), w3.heap.size ≤ k ∧ ∀ B ∈ bs1, ¬ k ∈ blks B.iv from fun k hk => ⟨Nat.le_trans hsz1 (own1.o k hk).1, fun B hB hx => (own1.q B hB k hx).2.2 hk⟩)
          have F14 := hid (N1.out pb4 (.inl l4))
          have F15 := hid (N1.out pb5 (.inl l5))
          replace A4 := hid (gx.obj A4.out)
          replace l4 := Nat.lt_of_lt_of_le l4 gx.size
          replace A5 := hid (gx.obj A5.out)
          replace l5 := Nat.lt_of_lt_of_le l5 gx.size
          clear own1 hab1 gx hsz1
          refine wpAnyH_ready (rs := [3]) (by kernel_rfl) (by simp) (AllReadyH.cons (o := { dst := some 30, op := Go.Op.call { callee := Go.Callee.value (Go.Operand.func 9), args := #[Go.Operand.tmp 29], argTypes := #[24] }, type := 29, pos := "law.go:218", after := #[{ on := 2, ground := Go.Ground.data }, { on := 1, ground := Go.Ground.chain }], guard := none }) rfl (fun K hK => ?_) AllReadyH.nil)
          have hsz3 : w3.heap.size ≤ x1.heap.size := (hHeld.2.2.2.2.2.2).size
          go_simp
          go_at_call 9
          refine (HPT.out _ hHeld.2.2.2.2.2.2).mono ?_
          rintro e x3 ⟨v3, bp3, bs3, rfl, own3, hab3, gx⟩
          obtain ⟨va3, vc3, hv3⟩ := own3.b.shape
          subst hv3
          refine hK.out _ _ (KS.out _ (hHeld.2.2.2.2.2.2.trans gx)) (fun hH2 => ?_)
          clear hHeld hK K
          have hHeld := hH2
          clear hH2
          try simp only [Act.put, List.setIfInBounds_toArray, List.set_cons_zero, List.set_cons_succ]
          have P3 := hid (own_pl own3 hab3)
          have N3 := hid (own_off own3)
          have m3 : x3.heap.size ≤ x3.heap.size := Nat.le_refl _
          have SEP := hid (show ∀ k ∈ blks (.slice va3 bs3.length vc3), Off k (.slice va1 bs1.length vc1) bs1 ∧ w3.heap.size ≤ k ∧ ∀ B ∈ bs3, ¬ k ∈ blks B.iv from fun k hk => ⟨P1.out.off k (own3.o k hk).1, Nat.le_trans hsz3 (own3.o k hk).1, fun B hB hx => (own3.q B hB k hx).2.2 hk⟩)
          have SEQ := hid (show ∀ k ∈ blks (.slice va1 bs1.length vc1), Off k (.slice va3 bs3.length vc3) bs3 from fun k hk => N3.out k (.inl (P1.out.ok.b.lt k hk)))
          have F34 := hid (N3.out pb4 (.inl l4))
          have F35 := hid (N3.out pb5 (.inl l5))
          replace P1 := hid (P1.out.gr gx)
          replace m1 := Nat.le_trans m1 gx.size
          replace A4 := hid (gx.obj A4.out)
          replace l4 := Nat.lt_of_lt_of_le l4 gx.size
          replace A5 := hid (gx.obj A5.out)
          replace l5 := Nat.lt_of_lt_of_le l5 gx.size
          clear own3 hab3 gx hsz3
          refine wpAnyH_ready (rs := [6]) (by kernel_rfl) (by simp) (AllReadyH.cons (o := { dst := none, op := Go.Op.store 29 (Go.Operand.tmp 5) (Go.Operand.tmp 28), type := 0, pos := "law.go:218", after := #[{ on := 4, ground := Go.Ground.data }, { on := 1, ground := Go.Ground.data }, { on := 3, ground := Go.Ground.chain }, { on := 0, ground := Go.Ground.phase }, { on := 1, ground := Go.Ground.phase }, { on := 2, ground := Go.Ground.textOnly Go.Departure.lateStores }, { on := 3, ground := Go.Ground.textOnly Go.Departure.lateStoresUnsure }, { on := 4, ground := Go.Ground.phase }, { on := 5, ground := Go.Ground.phase }], guard := none }) rfl (fun K hK => ?_) AllReadyH.nil)
          have c6 := cell_of_row x3 pb4 0 _ _ _ A4.out
          simp only [List.getElem?_toArray, List.getElem?_cons_zero] at c6
          have f6 : ∀ j, x3.frozen? ⟨pb4, j, none⟩ = false := fun j => frozen_of_row _ _ _ _ _ A4.out
          go_simp
          refine hK.out _ _ (KS.out _ (hHeld.2.2.2.2.2.2.setCell WP4 _)) (fun hH2 => ?_)
          clear hHeld hK K
          have hHeld := hH2
          clear hH2
          try simp only [Act.put, List.setIfInBounds_toArray, List.set_cons_zero, List.set_cons_succ]
          have C4 : Hid ((x3.setCell ⟨pb4, 0, none⟩ (.slice va1 bs1.length vc1)).cell? ⟨pb4, 0, none⟩ = some (.slice va1 bs1.length vc1)) := World.cell?_setCell_same _ _ _ c6
          replace P1 := hid (P1.out.set F14.out 0 (.slice va1 bs1.length vc1))
          replace P3 := hid (P3.out.set F34.out 0 (.slice va1 bs1.length vc1))
          replace A5 := hid ((Below.heap_setCell x3 ⟨pb4, 0, none⟩ (.slice va1 bs1.length vc1) pb5 (fun e => by simp at e <;> omega)).trans A5.out)
          clear c6 f6
          generalize x3.setCell ⟨pb4, 0, none⟩ (.slice va1 bs1.length vc1) = x6 at *
          refine wpAnyH_ready (rs := [7]) (by kernel_rfl) (by simp) (AllReadyH.cons (o := { dst := none, op := Go.Op.store 29 (Go.Operand.tmp 6) (Go.Operand.tmp 30), type := 0, pos := "law.go:218", after := #[{ on := 5, ground := Go.Ground.data }, { on := 3, ground := Go.Ground.data }, { on := 6, ground := Go.Ground.chain }, { on := 0, ground := Go.Ground.phase }, { on := 1, ground := Go.Ground.phase }, { on := 2, ground := Go.Ground.phase }, { on := 3, ground := Go.Ground.phase }, { on := 4, ground := Go.Ground.phase }, { on := 5, ground := Go.Ground.phase }, { on := 6, ground := Go.Ground.phase }], guard := none }) rfl (fun K hK => ?_) AllReadyH.nil)
          have c7 := cell_of_row x6 pb5 0 _ _ _ A5.out
          simp only [List.getElem?_toArray, List.getElem?_cons_zero] at c7
          have f7 : ∀ j, x6.frozen? ⟨pb5, j, none⟩ = false := fun j => frozen_of_row _ _ _ _ _ A5.out
          go_simp
          refine hK.out _ _ (KS.out _ (hHeld.2.2.2.2.2.2.setCell WP5 _)) (fun hH2 => ?_)
          clear hHeld hK K
          have hHeld := hH2
          clear hH2
          try simp only [Act.put, List.setIfInBounds_toArray, List.set_cons_zero, List.set_cons_succ]
          have C5 : Hid ((x6.setCell ⟨pb5, 0, none⟩ (.slice va3 bs3.length vc3)).cell? ⟨pb5, 0, none⟩ = some (.slice va3 bs3.length vc3)) := World.cell?_setCell_same _ _ _ c7
          replace P1 := hid (P1.out.set F15.out 0 (.slice va3 bs3.length vc3))
          replace P3 := hid (P3.out.set F35.out 0 (.slice va3 bs3.length vc3))
          replace C4 := hid ((World.cell?_setCell_other x6 ⟨pb5, 0, none⟩ ⟨pb4, 0, none⟩ (.slice va3 bs3.length vc3) (fun e => by simp at e <;> omega)).trans C4.out)
          clear c7 f7
          generalize x6.setCell ⟨pb5, 0, none⟩ (.slice va3 bs3.length vc3) = x7 at *
          refine wpAnyH_done (by kernel_rfl) (NoPanic.normal ?_) _
          go_simp
          go_wp2_with fail
          go_meet
          exact ⟨pb4, pb5, _, _, _, _, _, _, rfl, rfl, ⟨hHeld.2.2.2.2.2.2, P1.out, P3.out, C4.out, C5.out, fun k hk => ⟨(SEP.out k hk).1, (SEP.out k hk).2.1, fun e => F34.out.1 (e ▸ hk), fun e => F35.out.1 (e ▸ hk), (SEP.out k hk).2.2⟩, fun k hk => ⟨SEQ.out k hk, SE1.out k hk, fun e => F14.out.1 (e ▸ hk), fun e => F15.out.1 (e ▸ hk)⟩⟩⟩
      · have WP5 : w3.heap.size ≤ x0.heap.size := (hHeld.2.2.2.2.2.2).size
        go_simp
        refine hK.out _ _ (KS.out _ (hHeld.2.2.2.2.2.2.alloc _)) (fun hH2 => ?_)
        clear hHeld hK K
        have hHeld := hH2
        clear hH2
        try simp only [Act.put, List.setIfInBounds_toArray, List.set_cons_zero, List.set_cons_succ]
        have gx := (Gr.refl x0).alloc (.cells #[.slice none 0 0] 29)
        have A5 := hid (heap_alloc_new x0 (.cells #[.slice none 0 0] 29))
        have l5 : x0.heap.size < (x0.alloc (.cells #[.slice none 0 0] 29)).heap.size := by simp
        clear gx
        generalize x0.alloc (.cells #[.slice none 0 0] 29) = x5 at *
        generalize x0.heap.size = pb5 at *
        refine wpAnyH_ready (rs := [1, 4]) (by kernel_rfl) (by simp) (AllReadyH.cons (o := { dst := some 28, op := Go.Op.call { callee := Go.Callee.value (Go.Operand.func 9), args := #[Go.Operand.tmp 27], argTypes := #[24] }, type := 29, pos := "law.go:218", after := #[{ on := 0, ground := Go.Ground.data }], guard := none }) rfl (fun K hK => ?_) (AllReadyH.cons (o := { dst := some 5, op := Go.Op.alloc 29, type := 0, pos := "law.go:218", after := #[], guard := none }) rfl (fun K hK => ?_) AllReadyH.nil))
        · have hsz1 : w3.heap.size ≤ x5.heap.size := (hHeld.2.2.2.2.2.2).size
          go_simp
          go_at_call 9
          refine (HPS.out _ hHeld.2.2.2.2.2.2).mono ?_
          rintro e x1 ⟨v1, bp1, bs1, rfl, own1, hab1, gx⟩
          obtain ⟨va1, vc1, hv1⟩ := own1.b.shape
          subst hv1
          refine hK.out _ _ (KS.out _ (hHeld.2.2.2.2.2.2.trans gx)) (fun hH2 => ?_)
          clear hHeld hK K
          have hHeld := hH2
          clear hH2
          try simp only [Act.put, List.setIfInBounds_toArray, List.set_cons_zero, List.set_cons_succ]
          have P1 := hid (own_pl own1 hab1)
          have N1 := hid (own_off own1)
          have m1 : x1.heap.size ≤ x1.heap.size := Nat.le_refl _
          have SE1 := hid (show ∀ k ∈ blks (.slice va1 bs1.length vc1), w3.heap.size ≤ k ∧ ∀ B ∈ bs1, ¬ k ∈ blks B.iv from fun k hk => ⟨Nat.le_trans hsz1 (own1.o k hk).1, fun B hB hx => (own1.q B hB k hx).2.2 hk⟩)
          have F15 := hid (N1.out pb5 (.inl l5))
          replace A5 := hid (gx.obj A5.out)
          replace l5 := Nat.lt_of_lt_of_le l5 gx.size
          clear own1 hab1 gx hsz1
          refine wpAnyH_ready (rs := [3, 4]) (by kernel_rfl) (by simp) (AllReadyH.cons (o := { dst := some 30, op := Go.Op.call { callee := Go.Callee.value (Go.Operand.func 9), args := #[Go.Operand.tmp 29], argTypes := #[24] }, type := 29, pos := "law.go:218", after := #[{ on := 2, ground := Go.Ground.data }, { on := 1, ground := Go.Ground.chain }], guard := none }) rfl (fun K hK => ?_) (AllReadyH.cons (o := { dst := some 5, op := Go.Op.alloc 29, type := 0, pos := "law.go:218", after := #[], guard := none }) rfl (fun K hK => ?_) AllReadyH.nil))
          · have hsz3 : w3.heap.size ≤ x1.heap.size := (hHeld.2.2.2.2.2.2).size
            go_simp
            go_at_call 9
            refine (HPT.out _ hHeld.2.2.2.2.2.2).mono ?_
            rintro e x3 ⟨v3, bp3, bs3, rfl, own3, hab3, gx⟩
            obtain ⟨va3, vc3, hv3⟩ := own3.b.shape
            subst hv3
            refine hK.out _ _ (KS.out _ (hHeld.2.2.2.2.2.2.trans gx)) (fun hH2 => ?_)
            clear hHeld hK K
            have hHeld := hH2
            clear hH2
            try simp only [Act.put, List.setIfInBounds_toArray, List.set_cons_zero, List.set_cons_succ]
            have P3 := hid (own_pl own3 hab3)
            have N3 := hid (own_off own3)
            have m3 : x3.heap.size ≤ x3.heap.size := Nat.le_refl _
            have SEP := hid (show ∀ k ∈ blks (.slice va3 bs3.length vc3), Off k (.slice va1 bs1.length vc1) bs1 ∧ w3.heap.size ≤ k ∧ ∀ B ∈ bs3, ¬ k ∈ blks B.iv from fun k hk => ⟨P1.out.off k (own3.o k hk).1, Nat.le_trans hsz3 (own3.o k hk).1, fun B hB hx => (own3.q B hB k hx).2.2 hk⟩)
            have SEQ := hid (show ∀ k ∈ blks (.slice va1 bs1.length vc1), Off k (.slice va3 bs3.length vc3) bs3 from fun k hk => N3.out k (.inl (P1.out.ok.b.lt k hk)))
            have F35 := hid (N3.out pb5 (.inl l5))
            replace P1 := hid (P1.out.gr gx)
            replace m1 := Nat.le_trans m1 gx.size
            replace A5 := hid (gx.obj A5.out)
            replace l5 := Nat.lt_of_lt_of_le l5 gx.size
            clear own3 hab3 gx hsz3
            refine wpAnyH_ready (rs := [4]) (by kernel_rfl) (by simp) (AllReadyH.cons (o := { dst := some 5, op := Go.Op.alloc 29, type := 0, pos := "law.go:218", after := #[], guard := none }) rfl (fun K hK => ?_) AllReadyH.nil)
            have WP4 : w3.heap.size ≤ x3.heap.size := (hHeld.2.2.2.2.2.2).size
            go_simp
            refine hK.out _ _ (KS.out _ (hHeld.2.2.2.2.2.2.alloc _)) (fun hH2 => ?_)
            clear hHeld hK K
            have hHeld := hH2
            clear hH2
            try simp only [Act.put, List.setIfInBounds_toArray, List.set_cons_zero, List.set_cons_succ]
            have gx := (Gr.refl x3).alloc (.cells #[.slice none 0 0] 29)
            have A4 := hid (heap_alloc_new x3 (.cells #[.slice none 0 0] 29))
            have l4 : x3.heap.size < (x3.alloc (.cells #[.slice none 0 0] 29)).heap.size := by simp
            have F14 := hid (N1.out x3.heap.size (.inr m1))
            have F34 := hid (N3.out x3.heap.size (.inr m3))
            have D45 : ¬ pb5 = x3.heap.size := by omega
            replace P1 := hid (P1.out.gr gx)
            replace m1 := Nat.le_trans m1 gx.size
            replace P3 := hid (P3.out.gr gx)
            replace m3 := Nat.le_trans m3 gx.size
            replace A5 := hid (gx.obj A5.out)
            replace l5 := Nat.lt_of_lt_of_le l5 gx.size
            clear gx
            generalize x3.alloc (.cells #[.slice none 0 0] 29) = x4 at *
            generalize x3.heap.size = pb4 at *
            refine wpAnyH_ready (rs := [6]) (by kernel_rfl) (by simp) (AllReadyH.cons (o := { dst := none, op := Go.Op.store 29 (Go.Operand.tmp 5) (Go.Operand.tmp 28), type := 0, pos := "law.go:218", after := #[{ on := 4, ground := Go.Ground.data }, { on := 1, ground := Go.Ground.data }, { on := 3, ground := Go.Ground.chain }, { on := 0, ground := Go.Ground.phase }, { on := 1, ground := Go.Ground.phase }, { on := 2, ground := Go.Ground.textOnly Go.Departure.lateStores }, { on := 3, ground := Go.Ground.textOnly Go.Departure.lateStoresUnsure }, { on := 4, ground := Go.Ground.phase }, { on := 5, ground := Go.Ground.phase }], guard := none }) rfl (fun K hK => ?_) AllReadyH.nil)
            have c6 := cell_of_row x4 pb4 0 _ _ _ A4.out
            simp only [List.getElem?_toArray, List.getElem?_cons_zero] at c6
            have f6 : ∀ j, x4.frozen? ⟨pb4, j, none⟩ = false := fun j => frozen_of_row _ _ _ _ _ A4.out
            go_simp
            refine hK.out _ _ (KS.out _ (hHeld.2.2.2.2.2.2.setCell WP4 _)) (fun hH2 => ?_)
            clear hHeld hK K
            have hHeld := hH2
            clear hH2
            try simp only [Act.put, List.setIfInBounds_toArray, List.set_cons_zero, List.set_cons_succ]
            have C4 : Hid ((x4.setCell ⟨pb4, 0, none⟩ (.slice va1 bs1.length vc1)).cell? ⟨pb4, 0, none⟩ = some (.slice va1 bs1.length vc1)) := World.cell?_setCell_same _ _ _ c6
            replace P1 := hid (P1.out.set F14.out 0 (.slice va1 bs1.length vc1))
            replace P3 := hid (P3.out.set F34.out 0 (.slice va1 bs1.length vc1))
            replace A5 := hid ((Below.heap_setCell x4 ⟨pb4, 0, none⟩ (.slice va1 bs1.length vc1) pb5 (fun e => by simp at e <;> omega)).trans A5.out)
            clear c6 f6
            generalize x4.setCell ⟨pb4, 0, none⟩ (.slice va1 bs1.length vc1) = x6 at *
            refine wpAnyH_ready (rs := [7]) (by kernel_rfl) (by simp) (AllReadyH.cons (o := { dst := none, op := Go.Op.store 29 (Go.Operand.tmp 6) (Go.Operand.tmp 30), type := 0, pos := "law.go:218", after := #[{ on := 5, ground := Go.Ground.data }, { on := 3, ground := Go.Ground.data }, { on := 6, ground := Go.Ground.chain }, { on := 0, ground := Go.Ground.phase }, { on := 1, ground := Go.Ground.phase }, { on := 2, ground := Go.Ground.phase }, { on := 3, ground := Go.Ground.phase }, { on := 4, ground := Go.Ground.phase }, { on := 5, ground := Go.Ground.phase }, { on := 6, ground := Go.Ground.phase }], guard := none }) rfl (fun K hK => ?_) AllReadyH.nil)
            have c7 := cell_of_row x6 pb5 0 _ _ _ A5.out
            simp only [List.getElem?_toArray, List.getElem?_cons_zero] at c7
            have f7 : ∀ j, x6.frozen? ⟨pb5, j, none⟩ = false := fun j => frozen_of_row _ _ _ _ _ A5.out
            go_simp
            refine hK.out _ _ (KS.out _ (hHeld.2.2.2.2.2.2.setCell WP5 _)) (fun hH2 => ?_)
            clear hHeld hK K
            have hHeld := hH2
            clear hH2
            try simp only [Act.put, List.setIfInBounds_toArray, List.set_cons_zero, List.set_cons_succ]
            have C5 : Hid ((x6.setCell ⟨pb5, 0, none⟩ (.slice va3 bs3.length vc3)).cell? ⟨pb5, 0, none⟩ = some (.slice va3 bs3.length vc3)) := World.cell?_setCell_same _ _ _ c7
            replace P1 := hid (P1.out.set F15.out 0 (.slice va3 bs3.length vc3))
            replace P3 := hid (P3.out.set F35.out 0 (.slice va3 bs3.length vc3))
            replace C4 := hid ((World.cell?_setCell_other x6 ⟨pb5, 0, none⟩ ⟨pb4, 0, none⟩ (.slice va3 bs3.length vc3) (fun e => by simp at e <;> omega)).trans C4.out)
            clear c7 f7
            generalize x6.setCell ⟨pb5, 0, none⟩ (.slice va3 bs3.length vc3) = x7 at *
            refine wpAnyH_done (by kernel_rfl) (NoPanic.normal ?_) _
            go_simp
            go_wp2_with fail
            go_meet
            exact ⟨pb4, pb5, _, _, _, _, _, _, rfl, rfl, ⟨hHeld.2.2.2.2.2.2, P1.out, P3.out, C4.out, C5.out, fun k hk => ⟨(SEP.out k hk).1, (SEP.out k hk).2.1, fun e => F34.out.1 (e ▸ hk), fun e => F35.out.1 (e ▸ hk), (SEP.out k hk).2.2⟩, fun k hk => ⟨SEQ.out k hk, SE1.out k hk, fun e => F14.out.1 (e ▸ hk), fun e => F15.out.1 (e ▸ hk)⟩⟩⟩
          · have WP4 : w3.heap.size ≤ x1.heap.size := (hHeld.2.2.2.2.2.2).size
            go_simp
            refine hK.out _ _ (KS.out _ (hHeld.2.2.2.2.2.2.alloc _)) (fun hH2 => ?_)
            clear hHeld hK K
            have hHeld := hH2
            clear hH2
            try simp only [Act.put, List.setIfInBounds_toArray, List.set_cons_zero, List.set_cons_succ]
            have gx := (Gr.refl x1).alloc (.cells #[.slice none 0 0] 29)
            have A4 := hid (heap_alloc_new x1 (.cells #[.slice none 0 0] 29))
            have l4 : x1.heap.size < (x1.alloc (.cells #[.slice none 0 0] 29)).heap.size := by simp
            have F14 := hid (N1.out x1.heap.size (.inr m1))
            have D45 : ¬ pb5 = x1.heap.size := by omega
            replace P1 := hid (P1.out.gr gx)
            replace m1 := Nat.le_trans m1 gx.size
            replace A5 := hid (gx.obj A5.out)
            replace l5 := Nat.lt_of_lt_of_le l5 gx.size
            clear gx
            generalize x1.alloc (.cells #[.slice none 0 0] 29) = x4 at *
            generalize x1.heap.size = pb4 at *
            refine wpAnyH_ready (rs := [3]) (by kernel_rfl) (by simp) (AllReadyH.cons (o := { dst := some 30, op := Go.Op.call { callee := Go.Callee.value (Go.Operand.func 9), args := #[Go.Operand.tmp 29], argTypes := #[24] }, type := 29, pos := "law.go:218", after := #[{ on := 2, ground := Go.Ground.data }, { on := 1, ground := Go.Ground.chain }], guard := none }) rfl (fun K hK => ?_) AllReadyH.nil)
            have hsz3 : w3.heap.size ≤ x4.heap.size := (hHeld.2.2.2.2.2.2).size
            go_simp
            go_at_call 9
            refine (HPT.out _ hHeld.2.2.2.2.2.2).mono ?_
            rintro e x3 ⟨v3, bp3, bs3, rfl, own3, hab3, gx⟩
            obtain ⟨va3, vc3, hv3⟩ := own3.b.shape
            subst hv3
            refine hK.out _ _ (KS.out _ (hHeld.2.2.2.2.2.2.trans gx)) (fun hH2 => ?_)
            clear hHeld hK K
            have hHeld := hH2
            clear hH2
            try simp only [Act.put, List.setIfInBounds_toArray, List.set_cons_zero, List.set_cons_succ]
            have P3 := hid (own_pl own3 hab3)
            have N3 := hid (own_off own3)
            have m3 : x3.heap.size ≤ x3.heap.size := Nat.le_refl _
            have SEP := hid (show ∀ k ∈ blks (.slice va3 bs3.length vc3), Off k (.slice va1 bs1.length vc1) bs1 ∧ w3.heap.size ≤ k ∧ ∀ B ∈ bs3, ¬ k ∈ blks B.iv from fun k hk => ⟨P1.out.off k (own3.o k hk).1, Nat.le_trans hsz3 (own3.o k hk).1, fun B hB hx => (own3.q B hB k hx).2.2 hk⟩)
            have SEQ := hid (show ∀ k ∈ blks (.slice va1 bs1.length vc1), Off k (.slice va3 bs3.length vc3) bs3 from fun k hk => N3.out k (.inl (P1.out.ok.b.lt k hk)))
            have F35 := hid (N3.out pb5 (.inl l5))
            have F34 := hid (N3.out pb4 (.inl l4))
            replace P1 := hid (P1.out.gr gx)
            replace m1 := Nat.le_trans m1 gx.size
            replace A5 := hid (gx.obj A5.out)
            replace l5 := Nat.lt_of_lt_of_le l5 gx.size
            replace A4 := hid (gx.obj A4.out)
            replace l4 := Nat.lt_of_lt_of_le l4 gx.size
            clear own3 hab3 gx hsz3
            refine wpAnyH_ready (rs := [6]) (by kernel_rfl) (by simp) (AllReadyH.cons (o := { dst := none, op := Go.Op.store 29 (Go.Operand.tmp 5) (Go.Operand.tmp 28), type := 0, pos := "law.go:218", after := #[{ on := 4, ground := Go.Ground.data }, { on := 1, ground := Go.Ground.data }, { on := 3, ground := Go.Ground.chain }, { on := 0, ground := Go.Ground.phase }, { on := 1, ground := Go.Ground.phase }, { on := 2, ground := Go.Ground.textOnly Go.Departure.lateStores }, { on := 3, ground := Go.Ground.textOnly Go.Departure.lateStoresUnsure }, { on := 4, ground := Go.Ground.phase }, { on := 5, ground := Go.Ground.phase }], guard := none }) rfl (fun K hK => ?_) AllReadyH.nil)
            have c6 := cell_of_row x3 pb4 0 _ _ _ A4.out
            simp only [List.getElem?_toArray, List.getElem?_cons_zero] at c6
            have f6 : ∀ j, x3.frozen? ⟨pb4, j, none⟩ = false := fun j => frozen_of_row _ _ _ _ _ A4.out
            go_simp
            refine hK.out _ _ (KS.out _ (hHeld.2.2.2.2.2.2.setCell WP4 _)) (fun hH2 => ?_)
            clear hHeld hK K
            have hHeld := hH2
            clear hH2
            try simp only [Act.put, List.setIfInBounds_toArray, List.set_cons_zero, List.set_cons_succ]
            have C4 : Hid ((x3.setCell ⟨pb4, 0, none⟩ (.slice va1 bs1.length vc1)).cell? ⟨pb4, 0, none⟩ = some (.slice va1 bs1.length vc1)) := World.cell?_setCell_same _ _ _ c6
            replace P1 := hid (P1.out.set F14.out 0 (.slice va1 bs1.length vc1))
            replace P3 := hid (P3.out.set F34.out 0 (.slice va1 bs1.length vc1))
            replace A5 := hid ((Below.heap_setCell x3 ⟨pb4, 0, none⟩ (.slice va1 bs1.length vc1) pb5 (fun e => by simp at e <;> omega)).trans A5.out)
            clear c6 f6
            generalize x3.setCell ⟨pb4, 0, none⟩ (.slice va1 bs1.length vc1) = x6 at *
            refine wpAnyH_ready (rs := [7]) (by kernel_rfl) (by simp) (AllReadyH.cons (o := { dst := none, op := Go.Op.store 29 (Go.Operand.tmp 6) (Go.Operand.tmp 30), type := 0, pos := "law.go:218", after := #[{ on := 5, ground := Go.Ground.data }, { on := 3, ground := Go.Ground.data }, { on := 6, ground := Go.Ground.chain }, { on := 0, ground := Go.Ground.phase }, { on := 1, ground := Go.Ground.phase }, { on := 2, ground := Go.Ground.phase }, { on := 3, ground := Go.Ground.phase }, { on := 4, ground := Go.Ground.phase }, { on := 5, ground := Go.Ground.phase }, { on := 6, ground := Go.Ground.phase }], guard := none }) rfl (fun K hK => ?_) AllReadyH.nil)
            have c7 := cell_of_row x6 pb5 0 _ _ _ A5.out
            simp only [List.getElem?_toArray, List.getElem?_cons_zero] at c7
            have f7 : ∀ j, x6.frozen? ⟨pb5, j, none⟩ = false := fun j => frozen_of_row _ _ _ _ _ A5.out
            go_simp
            refine hK.out _ _ (KS.out _ (hHeld.2.2.2.2.2.2.setCell WP5 _)) (fun hH2 => ?_)
            clear hHeld hK K
            have hHeld := hH2
            clear hH2
            try simp only [Act.put, List.setIfInBounds_toArray, List.set_cons_zero, List.set_cons_succ]
            have C5 : Hid ((x6.setCell ⟨pb5, 0, none⟩ (.slice va3 bs3.length vc3)).cell? ⟨pb5, 0, none⟩ = some (.slice va3 bs3.length vc3)) := World.cell?_setCell_same _ _ _ c7
            replace P1 := hid (P1.out.set F15.out 0 (.slice va3 bs3.length vc3))
            replace P3 := hid (P3.out.set F35.out 0 (.slice va3 bs3.length vc3))
            replace C4 := hid ((World.cell?_setCell_other x6 ⟨pb5, 0, none⟩ ⟨pb4, 0, none⟩ (.slice va3 bs3.length vc3) (fun e => by simp at e <;> omega)).trans C4.out)
            clear c7 f7
            generalize x6.setCell ⟨pb5, 0, none⟩ (.slice va3 bs3.length vc3) = x7 at *
            refine wpAnyH_done (by kernel_rfl) (NoPanic.normal ?_) _
            go_simp
            go_wp2_with fail
            go_meet
            exact ⟨pb4, pb5, _, _, _, _, _, _, rfl, rfl, ⟨hHeld.2.2.2.2.2.2, P1.out, P3.out, C4.out, C5.out, fun k hk => ⟨(SEP.out k hk).1, (SEP.out k hk).2.1, fun e => F34.out.1 (e ▸ hk), fun e => F35.out.1 (e ▸ hk), (SEP.out k hk).2.2⟩, fun k hk => ⟨SEQ.out k hk, SE1.out k hk, fun e => F14.out.1 (e ▸ hk), fun e => F15.out.1 (e ▸ hk)⟩⟩⟩
        · have WP4 : w3.heap.size ≤ x5.heap.size := (hHeld.2.2.2.2.2.2).size
          go_simp
          refine hK.out _ _ (KS.out _ (hHeld.2.2.2.2.2.2.alloc _)) (fun hH2 => ?_)
          clear hHeld hK K
          have hHeld := hH2
          clear hH2
          try simp only [Act.put, List.setIfInBounds_toArray, List.set_cons_zero, List.set_cons_succ]
          have gx := (Gr.refl x5).alloc (.cells #[.slice none 0 0] 29)
          have A4 := hid (heap_alloc_new x5 (.cells #[.slice none 0 0] 29))
          have l4 : x5.heap.size < (x5.alloc (.cells #[.slice none 0 0] 29)).heap.size := by simp
          have D45 : ¬ pb5 = x5.heap.size := by omega
          replace A5 := hid (gx.obj A5.out)
          replace l5 := Nat.lt_of_lt_of_le l5 gx.size
          clear gx
          generalize x5.alloc (.cells #[.slice none 0 0] 29) = x4 at *
          generalize x5.heap.size = pb4 at *
          refine wpAnyH_ready (rs := [1]) (by kernel_rfl) (by simp) (AllReadyH.cons (o := { dst := some 28, op := Go.Op.call { callee := Go.Callee.value (Go.Operand.func 9), args := #[Go.Operand.tmp 27], argTypes := #[24] }, type := 29, pos := "law.go:218", after := #[{ on := 0, ground := Go.Ground.data }], guard := none }) rfl (fun K hK => ?_) AllReadyH.nil)
          have hsz1 : w3.heap.size ≤ x4.heap.size := (hHeld.2.2.2.2.2.2).size
          go_simp
          go_at_call 9
          refine (HPS.out _ hHeld.2.2.2.2.2.2).mono ?_
          rintro e x1 ⟨v1, bp1, bs1, rfl, own1, hab1, gx⟩
          obtain ⟨va1, vc1, hv1⟩ := own1.b.shape
          subst hv1
          refine hK.out _ _ (KS.out _ (hHeld.2.2.2.2.2.2.trans gx)) (fun hH2 => ?_)
          clear hHeld hK K
          have hHeld := hH2
          clear hH2
          try simp only [Act.put, List.setIfInBounds_toArray, List.set_cons_zero, List.set_cons_succ]
          have P1 := hid (own_pl own1 hab1)
          have N1 := hid (own_off own1)
          have m1 : x1.heap.size ≤ x1.heap.size := Nat.le_refl _
          have SE1 := hid (show ∀ k ∈ blks (.slice va1 bs1.length vc1), w3.heap.size ≤ k ∧ ∀ B ∈ bs1, ¬ k ∈ blks B.iv from fun k hk => ⟨Nat.le_trans hsz1 (own1.o k hk).1, fun B hB hx => (own1.q B hB k hx).2.2 hk⟩)
          have F15 := hid (N1.out pb5 (.inl l5))
          have F14 := hid (N1.out pb4 (.inl l4))
          replace A5 := hid (gx.obj A5.out)
          replace l5 := Nat.lt_of_lt_of_le l5 gx.size
          replace A4 := hid (gx.obj A4.out)
          replace l4 := Nat.lt_of_lt_of_le l4 gx.size
          clear own1 hab1 gx hsz1
          refine wpAnyH_ready (rs := [3]) (by kernel_rfl) (by simp) (AllReadyH.cons (o := { dst := some 30, op := Go.Op.call { callee := Go.Callee.value (Go.Operand.func 9), args := #[Go.Operand.tmp 29], argTypes := #[24] }, type := 29, pos := "law.go:218", after := #[{ on := 2, ground := Go.Ground.data }, { on := 1, ground := Go.Ground.chain }], guard := none }) rfl (fun K hK => ?_) AllReadyH.nil)
          have hsz3 : w3.heap.size ≤ x1.heap.size := (hHeld.2.2.2.2.2.2).size
          go_simp
          go_at_call 9
          refine (HPT.out _ hHeld.2.2.2.2.2.2).mono ?_
          rintro e x3 ⟨v3, bp3, bs3, rfl, own3, hab3, gx⟩
          obtain ⟨va3, vc3, hv3⟩ := own3.b.shape
          subst hv3
          refine hK.out _ _ (KS.out _ (hHeld.2.2.2.2.2.2.trans gx)) (fun hH2 => ?_)
          clear hHeld hK K
          have hHeld := hH2
          clear hH2
          try simp only [Act.put, List.setIfInBounds_toArray, List.set_cons_zero, List.set_cons_succ]
          have P3 := hid (own_pl own3 hab3)
          have N3 := hid (own_off own3)
          have m3 : x3.heap.size ≤ x3.heap.size := Nat.le_refl _
          have SEP := hid (show ∀ k ∈ blks (.slice va3 bs3.length vc3), Off k (.slice va1 bs1.length vc1) bs1 ∧ w3.heap.size ≤ k ∧ ∀ B ∈ bs3, ¬ k ∈ blks B.iv from fun k hk => ⟨P1.out.off k (own3.o k hk).1, Nat.le_trans hsz3 (own3.o k hk).1, fun B hB hx => (own3.q B hB k hx).2.2 hk⟩)
          have SEQ := hid (show ∀ k ∈ blks (.slice va1 bs1.length vc1), Off k (.slice va3 bs3.length vc3) bs3 from fun k hk => N3.out k (.inl (P1.out.ok.b.lt k hk)))
          have F35 := hid (N3.out pb5 (.inl l5))
          have F34 := hid (N3.out pb4 (.inl l4))
          replace P1 := hid (P1.out.gr gx)
          replace m1 := Nat.le_trans m1 gx.size
          replace A5 := hid (gx.obj A5.out)
          replace l5 := Nat.lt_of_lt_of_le l5 gx.size
          replace A4 := hid (gx.obj A4.out)
          replace l4 := Nat.lt_of_lt_of_le l4 gx.size
          clear own3 hab3 gx hsz3
          refine wpAnyH_ready (rs := [6]) (by kernel_rfl) (by simp) (AllReadyH.cons (o := { dst := none, op := Go.Op.store 29 (Go.Operand.tmp 5) (Go.Operand.tmp 28), type := 0, pos := "law.go:218", after := #[{ on := 4, ground := Go.Ground.data }, { on := 1, ground := Go.Ground.data }, { on := 3, ground := Go.Ground.chain }, { on := 0, ground := Go.Ground.phase }, { on := 1, ground := Go.Ground.phase }, { on := 2, ground := Go.Ground.textOnly Go.Departure.lateStores }, { on := 3, ground := Go.Ground.textOnly Go.Departure.lateStoresUnsure }, { on := 4, ground := Go.Ground.phase }, { on := 5, ground := Go.Ground.phase }], guard := none }) rfl (fun K hK => ?_) AllReadyH.nil)
          have c6 := cell_of_row x3 pb4 0 _ _ _ A4.out
          simp only [List.getElem?_toArray, List.getElem?_cons_zero] at c6
          have f6 : ∀ j, x3.frozen? ⟨pb4, j, none⟩ = false := fun j => frozen_of_row _ _ _ _ _ A4.out
          go_simp
          refine hK.out _ _ (KS.out _ (hHeld.2.2.2.2.2.2.setCell WP4 _)) (fun hH2 => ?_)
          clear hHeld hK K
          have hHeld := hH2
          clear hH2
          try simp only [Act.put, List.setIfInBounds_toArray, List.set_cons_zero, List.set_cons_succ]
          have C4 : Hid ((x3.setCell ⟨pb4, 0, none⟩ (.slice va1 bs1.length vc1)).cell? ⟨pb4, 0, none⟩ = some (.slice va1 bs1.length vc1)) := World.cell?_setCell_same _ _ _ c6
          replace P1 := hid (P1.out.set F14.out 0 (.slice va1 bs1.length vc1))
          replace P3 := hid (P3.out.set F34.out 0 (.slice va1 bs1.length vc1))
          replace A5 := hid ((Below.heap_setCell x3 ⟨pb4, 0, none⟩ (.slice va1 bs1.length vc1) pb5 (fun e => by simp at e <;> omega)).trans A5.out)
          clear c6 f6
          generalize x3.setCell ⟨pb4, 0, none⟩ (.slice va1 bs1.length vc1) = x6 at *
          refine wpAnyH_ready (rs := [7]) (by kernel_rfl) (by simp) (AllReadyH.cons (o := { dst := none, op := Go.Op.store 29 (Go.Operand.tmp 6) (Go.Operand.tmp 30), type := 0, pos := "law.go:218", after := #[{ on := 5, ground := Go.Ground.data }, { on := 3, ground := Go.Ground.data }, { on := 6, ground := Go.Ground.chain }, { on := 0, ground := Go.Ground.phase }, { on := 1, ground := Go.Ground.phase }, { on := 2, ground := Go.Ground.phase }, { on := 3, ground := Go.Ground.phase }, { on := 4, ground := Go.Ground.phase }, { on := 5, ground := Go.Ground.phase }, { on := 6, ground := Go.Ground.phase }], guard := none }) rfl (fun K hK => ?_) AllReadyH.nil)
          have c7 := cell_of_row x6 pb5 0 _ _ _ A5.out
          simp only [List.getElem?_toArray, List.getElem?_cons_zero] at c7
          have f7 : ∀ j, x6.frozen? ⟨pb5, j, none⟩ = false := fun j => frozen_of_row _ _ _ _ _ A5.out
          go_simp
          refine hK.out _ _ (KS.out _ (hHeld.2.2.2.2.2.2.setCell WP5 _)) (fun hH2 => ?_)
          clear hHeld hK K
          have hHeld := hH2
          clear hH2
          try simp only [Act.put, List.setIfInBounds_toArray, List.set_cons_zero, List.set_cons_succ]
          have C5 : Hid ((x6.setCell ⟨pb5, 0, none⟩ (.slice va3 bs3.length vc3)).cell? ⟨pb5, 0, none⟩ = some (.slice va3 bs3.length vc3)) := World.cell?_setCell_same _ _ _ c7
          replace P1 := hid (P1.out.set F15.out 0 (.slice va3 bs3.length vc3))
          replace P3 := hid (P3.out.set F35.out 0 (.slice va3 bs3.length vc3))
          replace C4 := hid ((World.cell?_setCell_other x6 ⟨pb5, 0, none⟩ ⟨pb4, 0, none⟩ (.slice va3 bs3.length vc3) (fun e => by simp at e <;> omega)).trans C4.out)
          clear c7 f7
          generalize x6.setCell ⟨pb5, 0, none⟩ (.slice va3 bs3.length vc3) = x7 at *
          refine wpAnyH_done (by kernel_rfl) (NoPanic.normal ?_) _
          go_simp
          go_wp2_with fail
          go_meet
          exact ⟨pb4, pb5, _, _, _, _, _, _, rfl, rfl, ⟨hHeld.2.2.2.2.2.2, P1.out, P3.out, C4.out, C5.out, fun k hk => ⟨(SEP.out k hk).1, (SEP.out k hk).2.1, fun e => F34.out.1 (e ▸ hk), fun e => F35.out.1 (e ▸ hk), (SEP.out k hk).2.2⟩, fun k hk => ⟨SEQ.out k hk, SE1.out k hk, fun e => F14.out.1 (e ▸ hk), fun e => F15.out.1 (e ▸ hk)⟩⟩⟩
  case rest =>
      obtain ⟨pb, qb, va1, vc1, va3, vc3, bs, cs, rfl, rfl, ST⟩ := hcut
      clear c0 c1 c2 d0 d1 d2 lc ld HPS HPT
      have T5 := hid (T3.out.trans ST.out.g.tch)
      have HTS := hid (fun W (t : Tch [] wc W) => tokens_p _ bs W (ST.out.p.t0 t).ok (fun B hB => blk_64 (JT.out.p _ (by rw [← ST.out.p.m]; exact List.mem_map_of_mem hB))) (by rw [ST.out.p.m]; have := txT_ge (txP (progA s)); have := JT.out.a; omega))
      have HTT := hid (fun W (t' : Tch [] wc W) => tokens_p _ cs W (ST.out.q.t0 t').ok (fun B hB => blk_64 (JT.out.q _ (by rw [← ST.out.q.m]; exact List.mem_map_of_mem hB))) (by rw [ST.out.q.m]; have := txT_ge (txP (progA t)); have := JT.out.b; omega))
      rw [ST.out.p.m] at HTS
      rw [ST.out.q.m] at HTT
      go_upto_region 6 with fail
      have KS6 : Hid (∀ w', Tch [] wc w' → w'.cell? ⟨pb, 0, none⟩ = some (.slice va1 bs.length vc1) ∧ w'.cell? ⟨qb, 0, none⟩ = some (.slice va3 cs.length vc3) ∧ Tch [] wc w') := fun w' g => ⟨g.cellk ST.out.cp, g.cellk ST.out.cq, g⟩
      refine wp_region_noPanic ?_
      refine wp_region_held_drew (S := fun w' => w'.cell? ⟨pb, 0, none⟩ = some (.slice va1 bs.length vc1) ∧ w'.cell? ⟨qb, 0, none⟩ = some (.slice va3 cs.length vc3) ∧ Tch [] wc w') hm (KS6.out _ (Tch.refl [] wc).drew) (fun hHeld => ?_)
      generalize wc.drew = x0 at hHeld ⊢
      refine wpAnyH_take (i := 0) (oi := { dst := some 31, op := Go.Op.load 29 (Go.Operand.tmp 5), type := 29, pos := "law.go:219", after := #[], guard := none }) (v := ?_) rfl (by kernel_rfl) (by kernel_rfl) (by kernel_rfl) (fun _ _ _ h => h) (Or.inl ⟨by rfl, ?_⟩) (by assumption) ?_
      rotate_left
      (intro w hSw; (try dsimp only at hSw); go_simp; try (with_reducible rfl))
      simp only [Act.put, List.setIfInBounds_toArray, List.set_cons_zero, List.set_cons_succ]
      refine wpAnyH_take (i := 3) (oi := { dst := some 34, op := Go.Op.load 29 (Go.Operand.tmp 6), type := 29, pos := "law.go:219", after := #[], guard := none }) (v := ?_) rfl (by kernel_rfl) (by kernel_rfl) (by kernel_rfl) (fun _ _ _ h => h) (Or.inl ⟨by rfl, ?_⟩) (by assumption) ?_
      rotate_left
      (intro w hSw; (try dsimp only at hSw); go_simp; try (with_reducible rfl))
      simp only [Act.put, List.setIfInBounds_toArray, List.set_cons_zero, List.set_cons_succ]
      refine wpAnyH_ready (rs := [1]) (by kernel_rfl) (by simp) (AllReadyH.cons (o := { dst := some 32, op := Go.Op.call { callee := Go.Callee.value (Go.Operand.func 10), args := #[Go.Operand.tmp 31], argTypes := #[29] }, type := 31, pos := "law.go:219", after := #[{ on := 0, ground := Go.Ground.data }], guard := none }) rfl (fun K hK => ?_) AllReadyH.nil)
      go_simp
      go_at_call 10
      refine (HTS.out _ hHeld.2.2).mono ?_
      rintro e x1 ⟨v1, rfl, s1, t1⟩
      obtain ⟨ya1, yc1, hv1, _, _⟩ := s1.shapeC
      subst hv1
      refine hK.out _ _ (KS6.out _ (hHeld.2.2.trans t1)) (fun hH2 => ?_)
      clear hHeld hK K
      have hHeld := hH2
      clear hH2
      try simp only [Act.put, List.setIfInBounds_toArray, List.set_cons_zero, List.set_cons_succ]
      have S1 := hid s1
      clear s1 t1
      refine wpAnyH_ready (rs := [2]) (by kernel_rfl) (by simp) (AllReadyH.cons (o := { dst := some 33, op := Go.Op.call { callee := Go.Callee.value (Go.Operand.func 12), args := #[Go.Operand.tmp 32, Go.Operand.const (Go.Value.slice none 0 0)], argTypes := #[31, 25] }, type := 9, pos := "law.go:219", after := #[{ on := 1, ground := Go.Ground.data }, { on := 1, ground := Go.Ground.chain }], guard := none }) rfl (fun K hK => ?_) AllReadyH.nil)
      go_simp
      go_at_call 12
      refine (text_nil _ _ _ _ S1.out (by have := JT.out.a; omega)).mono ?_
      rintro e x2 ⟨rfl, t2⟩
      refine hK.out _ _ (KS6.out _ (hHeld.2.2.trans t2)) (fun hH2 => ?_)
      clear hHeld hK K
      have hHeld := hH2
      clear hH2
      try simp only [Act.put, List.setIfInBounds_toArray, List.set_cons_zero, List.set_cons_succ]
      clear t2
      refine wpAnyH_ready (rs := [4]) (by kernel_rfl) (by simp) (AllReadyH.cons (o := { dst := some 35, op := Go.Op.call { callee := Go.Callee.value (Go.Operand.func 10), args := #[Go.Operand.tmp 34], argTypes := #[29] }, type := 31, pos := "law.go:219", after := #[{ on := 3, ground := Go.Ground.data }, { on := 2, ground := Go.Ground.chain }], guard := none }) rfl (fun K hK => ?_) AllReadyH.nil)
      go_simp
      go_at_call 10
      refine (HTT.out _ hHeld.2.2).mono ?_
      rintro e x4 ⟨v4, rfl, s4, t4⟩
      obtain ⟨ya4, yc4, hv4, _, _⟩ := s4.shapeC
      subst hv4
      refine hK.out _ _ (KS6.out _ (hHeld.2.2.trans t4)) (fun hH2 => ?_)
      clear hHeld hK K
      have hHeld := hH2
      clear hH2
      try simp only [Act.put, List.setIfInBounds_toArray, List.set_cons_zero, List.set_cons_succ]
      have S4 := hid s4
      clear s4 t4
      refine wpAnyH_ready (rs := [5]) (by kernel_rfl) (by simp) (AllReadyH.cons (o := { dst := some 36, op := Go.Op.call { callee := Go.Callee.value (Go.Operand.func 12), args := #[Go.Operand.tmp 35, Go.Operand.const (Go.Value.slice none 0 0)], argTypes := #[31, 25] }, type := 9, pos := "law.go:219", after := #[{ on := 4, ground := Go.Ground.data }, { on := 4, ground := Go.Ground.chain }], guard := none }) rfl (fun K hK => ?_) AllReadyH.nil)
      go_simp
      go_at_call 12
      refine (text_nil _ _ _ _ S4.out (by have := JT.out.b; omega)).mono ?_
      rintro e x5 ⟨rfl, t5⟩
      refine hK.out _ _ (KS6.out _ (hHeld.2.2.trans t5)) (fun hH2 => ?_)
      clear hHeld hK K
      have hHeld := hH2
      clear hH2
      try simp only [Act.put, List.setIfInBounds_toArray, List.set_cons_zero, List.set_cons_succ]
      clear t5
      refine wpAnyH_take (i := 6) (oi := { dst := some 7, op := Go.Op.assign (Go.Operand.tmp 33), type := 9, pos := "law.go:219", after := #[{ on := 2, ground := Go.Ground.data }, { on := 5, ground := Go.Ground.chain }, { on := 0, ground := Go.Ground.phase }, { on := 1, ground := Go.Ground.phase }, { on := 2, ground := Go.Ground.phase }, { on := 3, ground := Go.Ground.textOnly Go.Departure.lateStores }, { on := 4, ground := Go.Ground.textOnly Go.Departure.lateStoresUnsure }, { on := 5, ground := Go.Ground.textOnly Go.Departure.lateStoresUnsure }], guard := none }) (v := ?_) rfl (by kernel_rfl) (by kernel_rfl) (by kernel_rfl) (fun _ _ _ h => h) (Or.inl ⟨by rfl, ?_⟩) (by assumption) ?_
      rotate_left
      (intro w hSw; (try dsimp only at hSw); go_simp; try (with_reducible rfl))
      simp only [Act.put, List.setIfInBounds_toArray, List.set_cons_zero, List.set_cons_succ]
      refine wpAnyH_take (i := 7) (oi := { dst := some 8, op := Go.Op.assign (Go.Operand.tmp 36), type := 9, pos := "law.go:219", after := #[{ on := 5, ground := Go.Ground.data }, { on := 6, ground := Go.Ground.chain }, { on := 0, ground := Go.Ground.phase }, { on := 1, ground := Go.Ground.phase }, { on := 2, ground := Go.Ground.phase }, { on := 3, ground := Go.Ground.phase }, { on := 4, ground := Go.Ground.phase }, { on := 5, ground := Go.Ground.phase }, { on := 6, ground := Go.Ground.phase }], guard := none }) (v := ?_) rfl (by kernel_rfl) (by kernel_rfl) (by kernel_rfl) (fun _ _ _ h => h) (Or.inl ⟨by rfl, ?_⟩) (by assumption) ?_
      rotate_left
      (intro w hSw; (try dsimp only at hSw); go_simp; try (with_reducible rfl))
      simp only [Act.put, List.setIfInBounds_toArray, List.set_cons_zero, List.set_cons_succ]
      refine wpAnyH_done (by kernel_rfl) (NoPanic.normal ?_) _
      go_simp
      have JL := hid (ST.out.loop.t0 hHeld.2.2)
      have T6 := hid (T5.out.trans hHeld.2.2)
      have hcn : 0 < cs.length := by
        have h1 := congrArg List.length ST.out.q.m
        rw [List.length_map] at h1
        have := HNT.out
        omega
      have hbn : bs.length ≤ 8 ∧ cs.length ≤ 8 := by
        have h1 := congrArg List.length ST.out.q.m
        have h2 := congrArg List.length ST.out.p.m
        rw [List.length_map] at h1 h2
        have := HNT.out
        have := HNS.out
        omega
      obtain ⟨b2, o2, c2, hv2⟩ := ST.out.q.ok.b.ptr hcn
      cases hv2
      have HR1 := hid JT.out.tw
      have HR2 := hid JT.out.up
      have sa := bytes_size (txT (txP (progA s)))
      have sb := bytes_size (txT (txP (progA t)))
      have sc := bytes_size (txT (txP ((progA t).map upA)))
      have la := JT.out.a
      have lb := JT.out.b
      have lc3 := JT.out.c
      clear hHeld KS6 HTS HTT S1 S4
      rw [ByteArray.size_append] at HR1
      generalize bytesOf (txT (txP (progA s))) = ta_ at HR1 HR2 sa ⊢
      generalize bytesOf (txT (txP (progA t))) = tb_ at HR1 sb ⊢
      have za : ta_.size ≤ 30000 := by omega
      have zb : tb_.size ≤ 30000 := by omega
      have zc3 : (bytesOf (txT (txP ((progA t).map upA)))).size ≤ 30000 := by omega
      clear sa sb sc la lb
      have HP1 := hid (fun W => parse_any (ta_ ++ tb_) (by rw [ByteArray.size_append]; omega) W)
      have HP2 := hid (fun W => parse_any (ta_ ++ bytesOf (txT (txP ((progA t).map upA)))) (by rw [ByteArray.size_append]; omega) W)
      go_upto_region 8 with (go_at_call 11; refine (HP1.out _ (HE.out.below (T6.out.below (Nat.le_refl _) (by simp))) (HK.out.tch T6.out) (HW.out.tch T6.out (by simp))).mono ?_; rintro r W7 ⟨qa, qc, es, rfl, hab, t7, pg⟩; rw [HR1.out] at hab ⊢; have hnil : es = [] := List.map_eq_nil_iff.1 hab; subst hnil; have T7 := hid (T6.out.trans t7); have JL7 := hid (JL.out.t0 t7); clear hab t7 pg)
      have T8 := hid (T7.out.alloc (.cells #[.slice qa 0 qc] 29))
      have JL8 := hid (JL7.out.t0 ((Tch.refl [] W7).alloc (.cells #[.slice qa 0 qc] 29)))
      generalize W7.alloc (.cells #[.slice qa 0 qc] 29) = W8 at T8 JL8 ⊢
      generalize W7.heap.size = q7
      clear JL JL7 T6 T7
      have cq8 := JL8.out.cq
      have lq8 := cell_lt cq8
      simp only at lq8
      go_wp2_with fail
      clear cq8 lq8
      go_loopw [12, 13, 48] (fun _ _ vi wr => ∃ k : Nat, vi = .int .i64 k ∧ k ≤ cs.length ∧ Hid (JnL w3 pb qb (.slice va1 bs.length vc1) (.slice (some ⟨b2, o2, none⟩) cs.length vc3) bs cs (progA s) k wr)) (fun _ _ vi _ => cs.length - (intOf vi).toNat)
      case atStart => exact ⟨0, rfl, Nat.zero_le _, JL8.out⟩
      case round =>
        obtain ⟨k, rfl, hk, JR⟩ := hrel
        have cqr := JR.out.cq
        have lqr := cell_lt cqr
        simp only at lqr
        by_cases hlt : k < cs.length
        · obtain ⟨X, hX⟩ : ∃ x, cs[k]? = some x := ⟨cs[k], by simp [hlt]⟩
          have XP := JT.out.q _ (by rw [← ST.out.q.m]; exact List.mem_map_of_mem (List.mem_of_getElem? hX))
          have X64 := blk_64 XP
          have US := hid (up_store JR.out.b (upTo_get hX))
          have UN := hid (upTo_next hX)
          have STP := hid (fun wq t hb => JnL.step ST.out JR.out hX (wq := wq) t hb)
          obtain ⟨p0, p1, p2, p3, p4, p5, p6⟩ := blk_at (show Sl wr 52 7 (.slice (some ⟨b2, o2, none⟩) cs.length vc3) (upTo k cs).length (blkC (upTo k cs)) from by rw [upTo_len]; exact JR.out.b) k (upTo_get hX)
          have fz := JR.out.b.cell.2.2.1
          have lb2 : b2 < wr.heap.size := cell_lt p0
          obtain ⟨s1, s2, s3, s4, s5⟩ := ST.out.s b2 (by simp [blks])
          clear s1 s2 s3 s5
          have s6 : ¬ qb = b2 := fun e => s4 e.symm
          have hxl := XP.l
          have hxy := XP.p.2.1
          have hxn := XP.p.2.2
          have hy1 : X.y < 100000 ∧ X.n < 100000 := by
            have hv := XP.e
            generalize hab : X.ab = B at hv
            have e1 : X.y = B.y := by rw [← hab]; rfl
            have e2 : X.n = B.n := by rw [← hab]; rfl
            rw [e1, e2]
            obtain ⟨_, _, e, a, y, n⟩ := B
            cases hv <;> constructor <;> simp <;> omega
          have he4 := X64.e
          clear XP X64 hX
          obtain ⟨xl, xp, xq, xv, xi, xe, xa, xy, xn⟩ := X
          dsimp only [BlkM.ab] at *
          have w1 : IntKind.i64.wrap (xl + 1000) = xl + 1000 := by rw [IntKind.wrap_i64]; omega
          have w2 : IntKind.i64.wrap (xy + 1000) = xy + 1000 := by rw [IntKind.wrap_i64]; omega
          have w3_ : IntKind.i64.wrap (xn + 1000) = xn + 1000 := by rw [IntKind.wrap_i64]; omega
          have he : xe = 0 ∨ xe = 1 ∨ xe = 2 ∨ xe = 3 := by omega
          clear he4
          rcases he with rfl | rfl | rfl | rfl
          · go_wp2_with fail
            go_roundw
            case rel => exact ⟨k + 1, by go_num, by omega, STP.out _ (((Tch.refl [b2] wr).setCell (.inl (by simp)) _).setCell (.inl (by simp)) _) (by rw [← UN.out]; exact US.out.2.1 rfl)⟩
            case measure => simp [intOf]; omega
          · go_wp2_with fail
            go_roundw
            case rel => exact ⟨k + 1, by go_num, by omega, STP.out _ ((((Tch.refl [b2] wr).setCell (.inl (by simp)) _).setCell (.inl (by simp)) _).setCell (.inl (by simp)) _) (by rw [← UN.out]; exact US.out.2.2 rfl)⟩
            case measure => simp [intOf]; omega
          · go_wp2_with fail
            go_roundw
            case rel => exact ⟨k + 1, by go_num, by omega, STP.out _ ((Tch.refl [b2] wr).setCell (.inl (by simp)) _) (by rw [← UN.out]; exact US.out.1 (by simp) (by simp))⟩
            case measure => simp [intOf]; omega
          · go_wp2_with fail
            go_roundw
            case rel => exact ⟨k + 1, by go_num, by omega, STP.out _ ((Tch.refl [b2] wr).setCell (.inl (by simp)) _) (by rw [← UN.out]; exact US.out.1 (by simp) (by simp))⟩
            case measure => simp [intOf]; omega
        · obtain rfl : k = cs.length := by omega
          have TW0 := hid (T3.out.trans JR.out.t)
          have PJ0 := hid JR.out.p
          have PQ0 := hid (JnL.done ST.out JR.out)
          have CP0 := hid JR.out.cp
          have CQ0 := hid JR.out.cq
          have HBL := hid (show ∀ x ∈ blks (.slice va1 bs.length vc1), x < wr.heap.size from JR.out.p.ok.b.lt)
          have hpm := PQ0.out.m
          have HTU := hid (tokens_p _ (cs.map upM) wr PQ0.out.ok (fun B hB => blk_64 (JT.out.u _ (by rw [← hpm]; exact List.mem_map_of_mem hB))) (by rw [hpm]; have := txT_ge (txP ((progA t).map upA)); omega))
          rw [hpm] at HTU
          clear hpm JR
          go_upto_region 19 with (first
            | (go_at_call 10; refine HTU.out.mono ?_; rintro r Wa ⟨v5, rfl, s5, t5⟩; obtain ⟨va5, vc5, rfl, hc5, hc6⟩ := s5.shapeC; have S5 := hid s5; have Ta := hid (TW0.out.trans t5); have ta5 := hid t5; clear s5 t5)
            | (go_at_call 12; refine (text_nil _ _ _ _ S5.out (by omega)).mono ?_; rintro r Wb ⟨rfl, t6⟩; have Tb := hid (Ta.out.trans t6); have tb5 := hid (ta5.out.trans t6); clear t6)
            | (go_at_call 11; refine (HP2.out _ (HE.out.below (Tb.out.below (Nat.le_refl _) (by simp))) (HK.out.tch Tb.out) (HW.out.tch Tb.out (by simp))).mono ?_; rintro r Wd ⟨ra, rc, ds, rfl, hab, t7, pg⟩; rw [HR2.out] at hab ⊢; have Td := hid (Tb.out.trans t7); have td5 := hid (tb5.out.trans t7); have PG := hid pg; have HAD := hid hab; have hsz : wr.heap.size ≤ Wb.heap.size := tb5.out.size; clear hab t7 pg))
          have tz := hid (td5.out.alloc (.cells #[.slice ra ds.length rc] 29))
          have M := hid (heap_alloc_new Wd (.cells #[.slice ra ds.length rc] 29))
          have PRz := hid (PG.out.plp.tch ((Tch.refl [] Wd).alloc (.cells #[.slice ra ds.length rc] 29)))
          have hsd : wr.heap.size ≤ Wd.heap.size := td5.out.size
          generalize Wd.alloc (.cells #[.slice ra ds.length rc] 29) = W9 at tz M PRz ⊢
          generalize hq9 : Wd.heap.size = q9 at M hsd ⊢
          have TW := hid ((TW0.out.trans tz.out).drew)
          have PJ := hid (PJ0.out.t0 tz.out.drew)
          have PQ := hid (PQ0.out.t0 tz.out.drew)
          have PR := hid (PRz.out.tch ((Tch.refl [] W9).drew))
          have HOF := hid (show ∀ k ∈ blks (.slice va1 bs.length vc1), Off k (.slice (some ⟨b2, o2, none⟩) cs.length vc3) (cs.map upM) ∧ ∀ B ∈ bs, ¬ k ∈ blks B.iv from fun k hk => ⟨⟨(ST.out.r k hk).1.1, fun B hB hx => by obtain ⟨C, hC, rfl⟩ := List.mem_map.1 hB; exact (ST.out.r k hk).1.2 C hC hx⟩, (ST.out.r k hk).2.1.2⟩)
          have HOQ := hid (show ¬ q9 ∈ blks (.slice va1 bs.length vc1) ∧ ¬ pb ∈ blks (.slice va1 bs.length vc1) ∧ ¬ qb ∈ blks (.slice va1 bs.length vc1) from ⟨fun h => by have := HBL.out _ h; omega, fun h => (ST.out.r _ h).2.2.1 rfl, fun h => (ST.out.r _ h).2.2.2 rfl⟩)
          have HOW := hid (show ∀ x ∈ blks (.slice va1 bs.length vc1), w.heap.size ≤ x from fun x hx => Nat.le_trans T3.out.size (ST.out.r x hx).2.1.1)
          have HB0 := hid (show ∀ k ∈ blks (.slice va1 bs.length vc1), k < Wb.heap.size from fun k hk => Nat.lt_of_lt_of_le (HBL.out k hk) hsz)
          have HB1 := hid (show ∀ k ∈ blks (.slice ra ds.length rc), Wb.heap.size ≤ k from PG.out.o)
          have HB2 := hid (show ∀ B ∈ ds, ∀ k ∈ blks B.iv, Wb.heap.size ≤ k from fun B hB k hk => (PG.out.q B hB k hk).1)
          have HMM := hid (show ds.map BlkM.ab = (bs ++ cs.map upM).map BlkM.ab from by rw [HAD.out, List.map_append, ST.out.p.m, PQ0.out.m])
          have qs : IntKind.i64.wrap ((ta_.size : Int) + (tb_.size : Int)) = ((ta_.size + tb_.size : Nat) : Int) := by rw [IntKind.wrap_i64]; omega
          have k1 : W9.drew.cell? ⟨q9, 0, none⟩ = some (.slice ra ds.length rc) := cell_of_row _ _ 0 _ _ _ M.out
          have k2 : W9.drew.cell? ⟨pb, 0, none⟩ = some (.slice va1 bs.length vc1) := tz.out.drew.cellk CP0.out
          have k3 : W9.drew.cell? ⟨qb, 0, none⟩ = some (.slice (some ⟨b2, o2, none⟩) cs.length vc3) := tz.out.drew.cellk CQ0.out
          clear hq9
          refine wp_region_noPanic ?_
          refine wp_region_held_drew (S := fun w' => w'.cell? ⟨q9, 0, none⟩ = some (.slice ra ds.length rc) ∧ w'.cell? ⟨pb, 0, none⟩ = some (.slice va1 bs.length vc1) ∧ w'.cell? ⟨qb, 0, none⟩ = some (.slice (some ⟨b2, o2, none⟩) cs.length vc3)) hm ⟨k1, k2, k3⟩ (fun hHeld => ?_)
          clear k1 k2 k3
          generalize W9.drew = x0 at hHeld TW PJ PQ PR ⊢
          refine wpAnyH_take (i := 0) (oi := { dst := some 107, op := Go.Op.move (Go.Operand.tmp 11), type := 33, pos := "law.go:231", after := #[], guard := none }) (v := ?_) rfl (by kernel_rfl) (by kernel_rfl) (by kernel_rfl) (fun _ _ _ h => h) (Or.inl ⟨by rfl, ?_⟩) (by assumption) ?_
          rotate_left
          (intro w hSw; (try dsimp only at hSw); go_simp; try (with_reducible rfl))
          simp only [Act.put, List.setIfInBounds_toArray, List.set_cons_zero, List.set_cons_succ]
          refine wpAnyH_take (i := 1) (oi := { dst := some 108, op := Go.Op.binOp Go.BinOp.eql 33 (Go.Operand.tmp 107) (Go.Operand.const (Go.Value.int Go.IntKind.i64 8)) 33, type := 4, pos := "law.go:231", after := #[{ on := 0, ground := Go.Ground.data }], guard := none }) (v := ?_) rfl (by kernel_rfl) (by kernel_rfl) (by kernel_rfl) (fun _ _ _ h => h) (Or.inl ⟨by rfl, ?_⟩) (by assumption) ?_
          rotate_left
          (intro w hSw; (try dsimp only at hSw); go_simp; try (with_reducible rfl))
          simp only [Act.put, List.setIfInBounds_toArray, List.set_cons_zero, List.set_cons_succ]
          refine wpAnyH_take (i := 2) (oi := { dst := some 109, op := Go.Op.move (Go.Operand.tmp 108), type := 4, pos := "law.go:231", after := #[{ on := 1, ground := Go.Ground.data }], guard := none }) (v := ?_) rfl (by kernel_rfl) (by kernel_rfl) (by kernel_rfl) (fun _ _ _ h => h) (Or.inl ⟨by rfl, ?_⟩) (by assumption) ?_
          rotate_left
          (intro w hSw; (try dsimp only at hSw); go_simp; try (with_reducible rfl))
          simp only [Act.put, List.setIfInBounds_toArray, List.set_cons_zero, List.set_cons_succ]
          refine wpAnyH_take (i := 3) (oi := { dst := some 110, op := Go.Op.move (Go.Operand.tmp 10), type := 3, pos := "law.go:231", after := #[{ on := 2, ground := Go.Ground.guard }], guard := some (2, true) }) (v := ?_) rfl (by kernel_rfl) (by kernel_rfl) (by kernel_rfl) (fun _ _ _ h => h) (Or.inl ⟨by rfl, ?_⟩) (by assumption) ?_
          rotate_left
          (intro w hSw; (try dsimp only at hSw); go_simp; try (with_reducible rfl))
          simp only [Act.put, List.setIfInBounds_toArray, List.set_cons_zero, List.set_cons_succ]
          refine wpAnyH_take (i := 4) (oi := { dst := some 111, op := Go.Op.move (Go.Operand.tmp 7), type := 9, pos := "law.go:231", after := #[{ on := 2, ground := Go.Ground.guard }], guard := some (2, true) }) (v := ?_) rfl (by kernel_rfl) (by kernel_rfl) (by kernel_rfl) (fun _ _ _ h => h) (Or.inl ⟨by rfl, ?_⟩) (by assumption) ?_
          rotate_left
          (intro w hSw; (try dsimp only at hSw); go_simp; try (with_reducible rfl))
          simp only [Act.put, List.setIfInBounds_toArray, List.set_cons_zero, List.set_cons_succ]
          refine wpAnyH_take (i := 5) (oi := { dst := some 112, op := Go.Op.call { callee := Go.Callee.builtin Go.Builtin.len, args := #[Go.Operand.tmp 111], argTypes := #[9] }, type := 3, pos := "law.go:231", after := #[{ on := 4, ground := Go.Ground.data }, { on := 2, ground := Go.Ground.guard }], guard := some (2, true) }) (v := ?_) rfl (by kernel_rfl) (by kernel_rfl) (by kernel_rfl) (fun _ _ _ h => h) (Or.inl ⟨by rfl, ?_⟩) (by assumption) ?_
          rotate_left
          (intro w hSw; (try dsimp only at hSw); go_simp; try (with_reducible rfl))
          simp only [Act.put, List.setIfInBounds_toArray, List.set_cons_zero, List.set_cons_succ]
          refine wpAnyH_take (i := 6) (oi := { dst := some 113, op := Go.Op.move (Go.Operand.tmp 8), type := 9, pos := "law.go:231", after := #[{ on := 2, ground := Go.Ground.guard }], guard := some (2, true) }) (v := ?_) rfl (by kernel_rfl) (by kernel_rfl) (by kernel_rfl) (fun _ _ _ h => h) (Or.inl ⟨by rfl, ?_⟩) (by assumption) ?_
          rotate_left
          (intro w hSw; (try dsimp only at hSw); go_simp; try (with_reducible rfl))
          simp only [Act.put, List.setIfInBounds_toArray, List.set_cons_zero, List.set_cons_succ]
          refine wpAnyH_take (i := 7) (oi := { dst := some 114, op := Go.Op.call { callee := Go.Callee.builtin Go.Builtin.len, args := #[Go.Operand.tmp 113], argTypes := #[9] }, type := 3, pos := "law.go:231", after := #[{ on := 6, ground := Go.Ground.data }, { on := 2, ground := Go.Ground.guard }], guard := some (2, true) }) (v := ?_) rfl (by kernel_rfl) (by kernel_rfl) (by kernel_rfl) (fun _ _ _ h => h) (Or.inl ⟨by rfl, ?_⟩) (by assumption) ?_
          rotate_left
          (intro w hSw; (try dsimp only at hSw); go_simp; try (with_reducible rfl))
          simp only [Act.put, List.setIfInBounds_toArray, List.set_cons_zero, List.set_cons_succ]
          refine wpAnyH_take (i := 8) (oi := { dst := some 115, op := Go.Op.binOp Go.BinOp.add 3 (Go.Operand.tmp 112) (Go.Operand.tmp 114) 3, type := 3, pos := "law.go:231", after := #[{ on := 5, ground := Go.Ground.data }, { on := 7, ground := Go.Ground.data }, { on := 2, ground := Go.Ground.guard }], guard := some (2, true) }) (v := ?_) rfl (by kernel_rfl) (by kernel_rfl) (by kernel_rfl) (fun _ _ _ h => h) (Or.inl ⟨by rfl, ?_⟩) (by assumption) ?_
          rotate_left
          (intro w hSw; (try dsimp only at hSw); go_simp; try (with_reducible rfl))
          simp only [Act.put, List.setIfInBounds_toArray, List.set_cons_zero, List.set_cons_succ]
          refine wpAnyH_take (i := 9) (oi := { dst := some 116, op := Go.Op.binOp Go.BinOp.eql 3 (Go.Operand.tmp 110) (Go.Operand.tmp 115) 3, type := 4, pos := "law.go:231", after := #[{ on := 3, ground := Go.Ground.data }, { on := 8, ground := Go.Ground.data }, { on := 2, ground := Go.Ground.guard }], guard := some (2, true) }) (v := ?_) rfl (by kernel_rfl) (by kernel_rfl) (by kernel_rfl) (fun _ _ _ h => h) (Or.inl ⟨by rfl, ?_⟩) (by assumption) ?_
          rotate_left
          (intro w hSw; (try dsimp only at hSw); go_simp; try (with_reducible rfl))
          simp only [Act.put, List.setIfInBounds_toArray, List.set_cons_zero, List.set_cons_succ]
          refine wpAnyH_take (i := 10) (oi := { dst := some 117, op := Go.Op.pick (Go.Operand.tmp 109) (Go.Operand.tmp 116) (Go.Operand.const (Go.Value.bool false)), type := 4, pos := "law.go:231", after := #[{ on := 2, ground := Go.Ground.data }, { on := 9, ground := Go.Ground.data }], guard := none }) (v := ?_) rfl (by kernel_rfl) (by kernel_rfl) (by kernel_rfl) (fun _ _ _ h => h) (Or.inl ⟨by rfl, ?_⟩) (by assumption) ?_
          rotate_left
          (intro w hSw; (try dsimp only at hSw); go_simp; try (with_reducible rfl))
          simp only [Act.put, List.setIfInBounds_toArray, List.set_cons_zero, List.set_cons_succ]
          refine wpAnyH_take (i := 11) (oi := { dst := some 118, op := Go.Op.move (Go.Operand.tmp 117), type := 4, pos := "law.go:231", after := #[{ on := 10, ground := Go.Ground.data }, { on := 2, ground := Go.Ground.chain }], guard := none }) (v := ?_) rfl (by kernel_rfl) (by kernel_rfl) (by kernel_rfl) (fun _ _ _ h => h) (Or.inl ⟨by rfl, ?_⟩) (by assumption) ?_
          rotate_left
          (intro w hSw; (try dsimp only at hSw); go_simp; try (with_reducible rfl))
          simp only [Act.put, List.setIfInBounds_toArray, List.set_cons_zero, List.set_cons_succ]
          refine wpAnyH_take (i := 12) (oi := { dst := some 119, op := Go.Op.move (Go.Operand.tmp 16), type := 33, pos := "law.go:231", after := #[{ on := 11, ground := Go.Ground.guard }], guard := some (11, true) }) (v := ?_) rfl (by kernel_rfl) (by kernel_rfl) (by kernel_rfl) (fun _ _ _ h => h) (Or.inl ⟨by rfl, ?_⟩) (by assumption) ?_
          rotate_left
          (intro w hSw; (try dsimp only at hSw); go_simp; try (with_reducible rfl))
          simp only [Act.put, List.setIfInBounds_toArray, List.set_cons_zero, List.set_cons_succ]
          refine wpAnyH_take (i := 13) (oi := { dst := some 120, op := Go.Op.binOp Go.BinOp.eql 33 (Go.Operand.tmp 119) (Go.Operand.const (Go.Value.int Go.IntKind.i64 0)) 33, type := 4, pos := "law.go:231", after := #[{ on := 12, ground := Go.Ground.data }, { on := 11, ground := Go.Ground.guard }], guard := some (11, true) }) (v := ?_) rfl (by kernel_rfl) (by kernel_rfl) (by kernel_rfl) (fun _ _ _ h => h) (Or.inl ⟨by rfl, ?_⟩) (by assumption) ?_
          rotate_left
          (intro w hSw; (try dsimp only at hSw); go_simp; try (with_reducible rfl))
          simp only [Act.put, List.setIfInBounds_toArray, List.set_cons_zero, List.set_cons_succ]
          refine wpAnyH_take (i := 14) (oi := { dst := some 121, op := Go.Op.pick (Go.Operand.tmp 118) (Go.Operand.tmp 120) (Go.Operand.const (Go.Value.bool false)), type := 4, pos := "law.go:231", after := #[{ on := 11, ground := Go.Ground.data }, { on := 13, ground := Go.Ground.data }], guard := none }) (v := ?_) rfl (by kernel_rfl) (by kernel_rfl) (by kernel_rfl) (fun _ _ _ h => h) (Or.inl ⟨by rfl, ?_⟩) (by assumption) ?_
          rotate_left
          (intro w hSw; (try dsimp only at hSw); go_simp; try (with_reducible rfl))
          simp only [Act.put, List.setIfInBounds_toArray, List.set_cons_zero, List.set_cons_succ]
          refine wpAnyH_take (i := 15) (oi := { dst := some 122, op := Go.Op.move (Go.Operand.tmp 121), type := 4, pos := "law.go:231", after := #[{ on := 14, ground := Go.Ground.data }, { on := 11, ground := Go.Ground.chain }], guard := none }) (v := ?_) rfl (by kernel_rfl) (by kernel_rfl) (by kernel_rfl) (fun _ _ _ h => h) (Or.inl ⟨by rfl, ?_⟩) (by assumption) ?_
          rotate_left
          (intro w hSw; (try dsimp only at hSw); go_simp; try (with_reducible rfl))
          simp only [Act.put, List.setIfInBounds_toArray, List.set_cons_zero, List.set_cons_succ]
          refine wpAnyH_take (i := 16) (oi := { dst := some 123, op := Go.Op.load 29 (Go.Operand.tmp 14), type := 29, pos := "law.go:231", after := #[{ on := 15, ground := Go.Ground.guard }], guard := some (15, true) }) (v := ?_) rfl (by kernel_rfl) (by kernel_rfl) (by kernel_rfl) (fun _ _ _ h => h) (Or.inl ⟨by rfl, ?_⟩) (by assumption) ?_
          rotate_left
          (intro w hSw; (try dsimp only at hSw); go_simp; try (with_reducible rfl))
          simp only [Act.put, List.setIfInBounds_toArray, List.set_cons_zero, List.set_cons_succ]
          refine wpAnyH_take (i := 17) (oi := { dst := some 124, op := Go.Op.fieldAddr 29 (Go.Operand.tmp 5) 0, type := 0, pos := "law.go:231", after := #[{ on := 15, ground := Go.Ground.guard }], guard := some (15, true) }) (v := ?_) rfl (by kernel_rfl) (by kernel_rfl) (by kernel_rfl) (fun _ _ _ h => h) (Or.inl ⟨by rfl, ?_⟩) (by assumption) ?_
          rotate_left
          (intro w hSw; (try dsimp only at hSw); go_simp; try (with_reducible rfl))
          simp only [Act.put, List.setIfInBounds_toArray, List.set_cons_zero, List.set_cons_succ]
          refine wpAnyH_take (i := 18) (oi := { dst := some 125, op := Go.Op.load 27 (Go.Operand.tmp 124), type := 27, pos := "law.go:231", after := #[{ on := 17, ground := Go.Ground.data }, { on := 15, ground := Go.Ground.guard }], guard := some (15, true) }) (v := ?_) rfl (by kernel_rfl) (by kernel_rfl) (by kernel_rfl) (fun _ _ _ h => h) (Or.inl ⟨by rfl, ?_⟩) (by assumption) ?_
          rotate_left
          (intro w hSw; (try dsimp only at hSw); go_simp; try (with_reducible rfl))
          simp only [Act.put, List.setIfInBounds_toArray, List.set_cons_zero, List.set_cons_succ]
          refine wpAnyH_take (i := 19) (oi := { dst := some 126, op := Go.Op.fieldAddr 29 (Go.Operand.tmp 6) 0, type := 0, pos := "law.go:231", after := #[{ on := 15, ground := Go.Ground.guard }], guard := some (15, true) }) (v := ?_) rfl (by kernel_rfl) (by kernel_rfl) (by kernel_rfl) (fun _ _ _ h => h) (Or.inl ⟨by rfl, ?_⟩) (by assumption) ?_
          rotate_left
          (intro w hSw; (try dsimp only at hSw); go_simp; try (with_reducible rfl))
          simp only [Act.put, List.setIfInBounds_toArray, List.set_cons_zero, List.set_cons_succ]
          refine wpAnyH_take (i := 20) (oi := { dst := some 127, op := Go.Op.load 27 (Go.Operand.tmp 126), type := 27, pos := "law.go:231", after := #[{ on := 19, ground := Go.Ground.data }, { on := 15, ground := Go.Ground.guard }], guard := some (15, true) }) (v := ?_) rfl (by kernel_rfl) (by kernel_rfl) (by kernel_rfl) (fun _ _ _ h => h) (Or.inl ⟨by rfl, ?_⟩) (by assumption) ?_
          rotate_left
          (intro w hSw; (try dsimp only at hSw); go_simp; try (with_reducible rfl))
          simp only [Act.put, List.setIfInBounds_toArray, List.set_cons_zero, List.set_cons_succ]
          refine wpAnyH_ready (rs := [21]) (by kernel_rfl) (by simp) (AllReadyH.cons (o := { dst := some 128, op := Go.Op.call { callee := Go.Callee.builtin Go.Builtin.append, args := #[Go.Operand.tmp 125, Go.Operand.tmp 127], argTypes := #[27, 27] }, type := 27, pos := "law.go:231", after := #[{ on := 18, ground := Go.Ground.data }, { on := 20, ground := Go.Ground.data }, { on := 15, ground := Go.Ground.chain }, { on := 15, ground := Go.Ground.guard }], guard := some (15, true) }) rfl (fun K hK => ?_) AllReadyH.nil)
          refine step_append_tg (by rfl) _ _ 27 rfl Tryz.underlying27 info_blk rfl (by decide) (.slice va1 bs.length vc1) rfl PJ.out.ok.b ⟨b2, o2, none⟩ cs.length vc3 rfl (blkC (cs.map upM)) (by rw [blkC_len, List.length_map]) PQ.out.news PQ.out.ok.one (by omega) ?_
          intro v9 x9 hs9 ht9 hd9 hb9
          have hpl := both_plp PJ.out PQ.out HOF.out ht9 (by rw [List.length_map]; exact hs9)
          obtain ⟨za, zc, hv9⟩ := hs9.shape
          subst hv9
          refine hK.out _ _ (⟨ht9.cellS hHeld.1 HOQ.out.1, ht9.cellS hHeld.2.1 HOQ.out.2.1, ht9.cellS hHeld.2.2 HOQ.out.2.2⟩) (fun hH2 => ?_)
          clear hHeld hK K
          have hHeld := hH2
          clear hH2
          try simp only [Act.put, List.setIfInBounds_toArray, List.set_cons_zero, List.set_cons_succ]
          have PB := hid hpl
          have TB := hid (TW.out.trans2 ht9 (fun x hx => .inr (HOW.out x hx)))
          have RR := hid (PR.out.tchS (Tch.refl [] _) ht9 HB0.out HB1.out HB2.out)
          clear hpl hs9 ht9 hd9 hb9
          refine wpAnyH_take (i := 22) (oi := { dst := some 129, op := Go.Op.build 29 #[(0, Go.Operand.tmp 128)], type := 29, pos := "law.go:231", after := #[{ on := 21, ground := Go.Ground.data }, { on := 15, ground := Go.Ground.guard }], guard := some (15, true) }) (v := ?_) rfl (by kernel_rfl) (by kernel_rfl) (by kernel_rfl) (fun _ _ _ h => h) (Or.inl ⟨by rfl, ?_⟩) (by assumption) ?_
          rotate_left
          (intro w hSw; (try dsimp only at hSw); go_simp; try (with_reducible rfl))
          simp only [Act.put, List.setIfInBounds_toArray, List.set_cons_zero, List.set_cons_succ]
          refine wpAnyH_ready (rs := [23]) (by kernel_rfl) (by simp) (AllReadyH.cons (o := { dst := some 130, op := Go.Op.call { callee := Go.Callee.value (Go.Operand.func 13), args := #[Go.Operand.tmp 123, Go.Operand.tmp 129], argTypes := #[29, 29] }, type := 4, pos := "law.go:231", after := #[{ on := 16, ground := Go.Ground.data }, { on := 22, ground := Go.Ground.data }, { on := 21, ground := Go.Ground.chain }, { on := 15, ground := Go.Ground.guard }], guard := some (15, true) }) rfl (fun K hK => ?_) AllReadyH.nil)
          go_simp
          go_at_call 13
          refine (same_true _ _ ds (bs ++ cs.map upM) _ RR.out PB.out HMM.out).mono ?_
          rintro e x8 ⟨rfl, t8⟩
          refine hK.out _ _ (⟨t8.cellk hHeld.1, t8.cellk hHeld.2.1, t8.cellk hHeld.2.2⟩) (fun hH2 => ?_)
          clear hHeld hK K
          have hHeld := hH2
          clear hH2
          try simp only [Act.put, List.setIfInBounds_toArray, List.set_cons_zero, List.set_cons_succ]
          have TE := hid (TB.out.trans t8)
          clear t8
          refine wpAnyH_take (i := 24) (oi := { dst := some 131, op := Go.Op.pick (Go.Operand.tmp 122) (Go.Operand.tmp 130) (Go.Operand.const (Go.Value.bool false)), type := 4, pos := "law.go:231", after := #[{ on := 15, ground := Go.Ground.data }, { on := 23, ground := Go.Ground.data }], guard := none }) (v := ?_) rfl (by kernel_rfl) (by kernel_rfl) (by kernel_rfl) (fun _ _ _ h => h) (Or.inl ⟨by rfl, ?_⟩) (by assumption) ?_
          rotate_left
          (intro w hSw; (try dsimp only at hSw); go_simp; try (with_reducible rfl))
          simp only [Act.put, List.setIfInBounds_toArray, List.set_cons_zero, List.set_cons_succ]
          refine wpAnyH_take (i := 25) (oi := { dst := some 4, op := Go.Op.assign (Go.Operand.tmp 131), type := 4, pos := "law.go:231", after := #[{ on := 24, ground := Go.Ground.data }, { on := 23, ground := Go.Ground.chain }, { on := 0, ground := Go.Ground.phase }, { on := 1, ground := Go.Ground.phase }, { on := 2, ground := Go.Ground.phase }, { on := 3, ground := Go.Ground.phase }, { on := 4, ground := Go.Ground.phase }, { on := 5, ground := Go.Ground.phase }, { on := 6, ground := Go.Ground.phase }, { on := 7, ground := Go.Ground.phase }, { on := 8, ground := Go.Ground.phase }, { on := 9, ground := Go.Ground.phase }, { on := 10, ground := Go.Ground.phase }, { on := 11, ground := Go.Ground.phase }, { on := 12, ground := Go.Ground.phase }, { on := 13, ground := Go.Ground.phase }, { on := 14, ground := Go.Ground.phase }, { on := 15, ground := Go.Ground.phase }, { on := 16, ground := Go.Ground.phase }, { on := 17, ground := Go.Ground.phase }, { on := 18, ground := Go.Ground.phase }, { on := 19, ground := Go.Ground.phase }, { on := 20, ground := Go.Ground.phase }, { on := 21, ground := Go.Ground.phase }, { on := 22, ground := Go.Ground.phase }, { on := 23, ground := Go.Ground.phase }, { on := 24, ground := Go.Ground.phase }], guard := none }) (v := ?_) rfl (by kernel_rfl) (by kernel_rfl) (by kernel_rfl) (fun _ _ _ h => h) (Or.inl ⟨by rfl, ?_⟩) (by assumption) ?_
          rotate_left
          (intro w hSw; (try dsimp only at hSw); go_simp; try (with_reducible rfl))
          simp only [Act.put, List.setIfInBounds_toArray, List.set_cons_zero, List.set_cons_succ]
          refine wpAnyH_done (by kernel_rfl) (NoPanic.normal ?_) _
          go_simp
          go_wp2_with fail
          go_ret
          exact ⟨rfl, TE.out⟩
end Go.Proofs.YtgegdelinckfoaaGreatDoor


/- ParseJoins: the walk, whatever came in. -/
set_option linter.unusedSimpArgs false
set_option linter.unusedVariables false
namespace Go.Proofs.YtgegdelinckfoaaGreatDoor
open Go.RowKit Go.Sort

set_option maxRecDepth 100000 in
set_option maxHeartbeats 16000000 in
theorem joins_walk (s t : SmlM) (w : World) (hE : Env w) (hK : Kinds w) (hW : WordsH w) (hs : SmlOk w s) (ht : SmlOk w t) :
    Calls Tryz.prog 6 #[.agg #[.int .u8 s.r, .bool s.bare, s.bv], .agg #[.int .u8 t.r, .bool t.bare, t.bv]] w fun r w' => r = .returned (.bool true) ∧ Tch [] w w' := by
  by_cases hls : lightB s = true
  · by_cases hlt : lightB t = true
    · exact joins_both s t w hE hK hW hs ht hls hlt
    · have hlf : lightB t = false := by simpa using hlt
      have HLS := hid (fun W (h : SmlOk W s) => light_any s W h)
      have HLT := hid (fun W (h : SmlOk W t) => light_any t W h)
      rw [hls] at HLS
      rw [hlf] at HLT
      obtain ⟨va, vc, hbv, _⟩ := hs.b.shape
      obtain ⟨ta, tc, htv, _⟩ := ht.b.shape
      rw [hbv] at HLS ⊢
      rw [htv] at HLT ⊢
      have HE := hid hE
      have HK := hid hK
      have HW := hid hW
      have HS := hid hs
      have HT := hid ht
      have T0 := hid (((Tch.refl [] w).alloc (.cells #[.int .u8 s.r, .bool s.bare, .slice va s.bs.length vc] 24)).alloc (.cells #[.int .u8 t.r, .bool t.bare, .slice ta t.bs.length tc] 24))
      have o1 := ((Tch.refl [] (w.alloc (.cells #[.int .u8 s.r, .bool s.bare, .slice va s.bs.length vc] 24))).alloc (.cells #[.int .u8 t.r, .bool t.bare, .slice ta t.bs.length tc] 24)).obj (heap_alloc_new w (.cells #[.int .u8 s.r, .bool s.bare, .slice va s.bs.length vc] 24)) (by simp)
      have o2 := heap_alloc_new (w.alloc (.cells #[.int .u8 s.r, .bool s.bare, .slice va s.bs.length vc] 24)) (.cells #[.int .u8 t.r, .bool t.bare, .slice ta t.bs.length tc] 24)
      simp only [World.size_alloc] at o2
      have O1 := hid o1
      have O2 := hid o2
      clear hE hK hW hs ht hbv htv o1 o2 hls hlt hlf
      go_enter Tryz.func6, Tryz.ntmps6
      go_wp2_with fail
      refine (awake_p _ (HE.out.below (T0.out.below (Nat.le_refl _) (by simp))) (HK.out.tch T0.out) (HW.out.tch T0.out (by simp))).mono ?_
      rintro e w1 ⟨rfl, t1⟩
      dsimp only
      have c0 := cell_of_row _ _ 0 _ _ _ (t1.obj O1.out (by simp))
      have c1 := cell_of_row _ _ 1 _ _ _ (t1.obj O1.out (by simp))
      have c2 := cell_of_row _ _ 2 _ _ _ (t1.obj O1.out (by simp))
      have d0 := cell_of_row _ _ 0 _ _ _ (t1.obj O2.out (by simp))
      have d1 := cell_of_row _ _ 1 _ _ _ (t1.obj O2.out (by simp))
      have d2 := cell_of_row _ _ 2 _ _ _ (t1.obj O2.out (by simp))
      simp only [List.getElem?_toArray, List.getElem?_cons_zero, List.getElem?_cons_succ] at c0 c1 c2 d0 d1 d2
      have T1 := hid (T0.out.trans t1)
      have lc := cell_lt c0
      have ld := cell_lt d0
      simp only at lc ld
      clear t1 T0 O1 O2
      go_wp2_with fail
      refine (HLS.out _ (HS.out.tch T1.out)).mono ?_
      rintro e w2 ⟨rfl, g2⟩
      dsimp only
      replace d0 := g2.val d0
      replace d1 := g2.val d1
      replace d2 := g2.val d2
      have T2 := hid (T1.out.trans g2.tch)
      replace ld := cell_lt d0
      simp only at ld
      clear g2 T1 HLS c0 c1 c2 lc
      go_wp2_with fail
      refine (HLT.out _ (HT.out.tch T2.out)).mono ?_
      rintro e w3 ⟨rfl, g3⟩
      dsimp only
      have T3 := hid (T2.out.trans g3.tch)
      clear g3
      go_wp2_with fail
      go_ret
      exact ⟨rfl, T3.out⟩
  · have hlf : lightB s = false := by simpa using hls
    have HLS := hid (fun W (h : SmlOk W s) => light_any s W h)
    rw [hlf] at HLS
    obtain ⟨va, vc, hbv, _⟩ := hs.b.shape
    obtain ⟨ta, tc, htv, _⟩ := ht.b.shape
    rw [hbv] at HLS ⊢
    rw [htv]
    have HE := hid hE
    have HK := hid hK
    have HW := hid hW
    have HS := hid hs
    have T0 := hid (((Tch.refl [] w).alloc (.cells #[.int .u8 s.r, .bool s.bare, .slice va s.bs.length vc] 24)).alloc (.cells #[.int .u8 t.r, .bool t.bare, .slice ta t.bs.length tc] 24))
    have o1 := ((Tch.refl [] (w.alloc (.cells #[.int .u8 s.r, .bool s.bare, .slice va s.bs.length vc] 24))).alloc (.cells #[.int .u8 t.r, .bool t.bare, .slice ta t.bs.length tc] 24)).obj (heap_alloc_new w (.cells #[.int .u8 s.r, .bool s.bare, .slice va s.bs.length vc] 24)) (by simp)
    have O1 := hid o1
    clear hE hK hW hs ht hbv htv o1 hls hlf
    go_enter Tryz.func6, Tryz.ntmps6
    go_wp2_with fail
    refine (awake_p _ (HE.out.below (T0.out.below (Nat.le_refl _) (by simp))) (HK.out.tch T0.out) (HW.out.tch T0.out (by simp))).mono ?_
    rintro e w1 ⟨rfl, t1⟩
    dsimp only
    have c0 := cell_of_row _ _ 0 _ _ _ (t1.obj O1.out (by simp))
    have c1 := cell_of_row _ _ 1 _ _ _ (t1.obj O1.out (by simp))
    have c2 := cell_of_row _ _ 2 _ _ _ (t1.obj O1.out (by simp))
    simp only [List.getElem?_toArray, List.getElem?_cons_zero, List.getElem?_cons_succ] at c0 c1 c2
    have T1 := hid (T0.out.trans t1)
    have lc := cell_lt c0
    simp only at lc
    clear t1 T0 O1
    go_wp2_with fail
    refine (HLS.out _ (HS.out.tch T1.out)).mono ?_
    rintro e w2 ⟨rfl, g2⟩
    dsimp only
    have T2 := hid (T1.out.trans g2.tch)
    clear g2
    go_wp2_with fail
    go_ret
    exact ⟨rfl, T2.out⟩
end Go.Proofs.YtgegdelinckfoaaGreatDoor

