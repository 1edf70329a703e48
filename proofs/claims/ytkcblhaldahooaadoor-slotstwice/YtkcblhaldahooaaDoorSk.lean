/- Joined: Mod, CkC, Reg, RegM, Clo. -/
import Derived.Test.YtkcblhaldahooaaDoorJk
import Derived.Deep.RegionHeld3


/- A program of the call's own whose last block is changed: what it shows then; what Check finds in it. -/
set_option linter.unusedSimpArgs false
set_option linter.unusedVariables false
namespace Go.Proofs.YtkcblhaldahooaaDoor
open Go.RowKit Go.Sort Go.Maps

theorem sl_setM {w : World} {e : TypeId} {sz n c b off : Nat} {cs : List Value} (h : Sl w e sz (.slice (some ⟨b, off, none⟩) n c) n cs) (j : Nat) (hj : j < cs.length) (u : Value) :
    Sl (w.setCell ⟨b, off + j, none⟩ u) e sz (.slice (some ⟨b, off, none⟩) n c) n (cs.set j u) := by
  obtain ⟨h0, ⟨h1, _⟩ | ⟨b', off', cap', cur, e1, h1, h2, h3, h4, h5⟩⟩ := h
  · cases h1
  · cases e1
    refine ⟨by simpa using h0, .inr ⟨b, off, c, cur.setIfInBounds (off + j) u, rfl, heap_setCell_same w b (off + j) cur e u h1, h2, h3, by simpa using h4, fun i hi => ?_⟩⟩
    have hi' : i < cs.length := by simpa using hi
    have hlt : off + j < cur.size := by
      have := h5 j hj
      rw [List.getElem?_eq_getElem hj] at this
      exact (Array.getElem?_eq_some_iff.1 this).1
    rw [Array.getElem?_setIfInBounds, List.getElem?_set]
    by_cases hij : j = i
    · subst hij; simp [hlt, hj]
    · rw [if_neg (by omega), if_neg hij]; exact h5 i hi'
/-- A cell of the last block is set. -/
theorem sl_last {w : World} {c b off m : Nat} {init : List BlkM} {B B' : BlkM} (hm : init.length = m) (h : Sl w 43 7 (.slice (some ⟨b, off, none⟩) (m + 1) c) (m + 1) (blkC (init ++ [B]))) (j : Nat) (hj : j < 7) (u : Value) (hB : B.cells.set j u = B'.cells) :
    Sl (w.setCell ⟨b, off + m * 7 + j, none⟩ u) 43 7 (.slice (some ⟨b, off, none⟩) (m + 1) c) (m + 1) (blkC (init ++ [B'])) := by
  have hl : (blkC init).length = m * 7 := by unfold blkC; rw [flatMap_len (f := BlkM.cells) (sz := 7) (fun _ => rfl), hm]
  have hB7 : B.cells.length = 7 := rfl
  have h2 := sl_setM h (m * 7 + j) (by rw [blkC_snoc, List.length_append, hl, hB7]; omega) u
  rw [blkC_snoc, List.set_append_right _ _ (by rw [hl]; omega), hl, show m * 7 + j - m * 7 = j by omega, hB, ← blkC_snoc, ← Nat.add_assoc] at h2
  exact h2
/-- The program whose last block has changed. -/
theorem own_prog {w0 w w' : World} {v : Value} {bp : Nat} {init : List BlkM} {B B' : BlkM} {S : List Nat} (h : Own w0 w v bp (init ++ [B])) (t : Tch S w w') (hS : ∀ x ∈ S, x ∈ blks v) (hs : Sl w' 43 7 v (init ++ [B']).length (blkC (init ++ [B']))) (hB : BlkOk w' B') : ProgOk w' v (init ++ [B']) :=
  ⟨hs, fun y hy => by
    rcases List.mem_append.1 hy with h1 | h1
    · have hm : y ∈ init ++ [B] := List.mem_append.2 (.inl h1)
      have hp := h.p y hm
      exact ⟨by rw [hp.1, hp.2]; exact Sl.nil _ _ _, fun z hz => by rw [hp.2] at hz; simp at hz, (h.i y hm).kept t (fun x hx hx2 => (h.q y hm x hx).2.2 (hS x hx2))⟩
    · simp at h1; subst h1; exact hB⟩
/-- The changed block's own instructions lie as they lay. -/
theorem own_ins {w0 w w' : World} {v : Value} {bp : Nat} {init : List BlkM} {B : BlkM} {S : List Nat} (h : Own w0 w v bp (init ++ [B])) (t : Tch S w w') (hS : ∀ x ∈ S, x ∈ blks v) : Sl w' 36 7 B.iv B.ins.length (insC B.ins) :=
  (h.i B (by simp)).kept t (fun x hx hx2 => (h.q B (by simp) x hx).2.2 (hS x hx2))

theorem firstE_one (x : Int) : firstE [x] = x := by unfold firstE; split <;> simp_all [firstE]
/-- Check, where the last block has been changed and keeps its label. -/
theorem check_last {s : SmlM} {init : List BlkM} {B B' : BlkM} (h8 : s.bs.length ≤ 8) (h : Prog1 s (init ++ [B])) (hl : B'.lab = B.lab) (hc : sizeB B' ≤ 1000) : checkE (init ++ [B']) = blkE (progL s) B' ∧ countM (init ++ [B']) < 4611686018427387904 := by
  have hn := h.n
  have hle := len_in s h8
  have hsz : cnt2 (init ++ [B']) ≤ 2000 := by
    have h1 := cnt16_le init (fun x hx => h.size x (by simp [hx]))
    rw [cnt2_append, cnt2_cons]
    simp at hn
    have : cnt2 ([] : List BlkM) = 0 := rfl
    omega
  have hlabs : labsOf (init ++ [B']) = progL s := by
    rw [← h.l]; unfold labsOf; simp [hl]
  have hcc : countM (init ++ [B']) ≤ 3000 := by
    rw [count_eq]; simp at hn ⊢; omega
  refine ⟨?_, by omega⟩
  have hls : labsE (labsOf (init ++ [B'])) [] = 0 := by rw [hlabs]; exact labsE_ok _ _ (fun x hx => progL_small h8 hx) (progL_nodup s) (fun x _ => by simp)
  unfold checkE
  rw [if_neg (by simp at hn ⊢; omega), if_neg (by omega), if_neg (not_not_intro hls), hlabs, List.map_append, firstE_app _ _ (fun x hx => ?_), List.map_cons, List.map_nil, firstE_one]
  obtain ⟨Y, hY, rfl⟩ := List.mem_map.1 hx
  exact good_blk (h.p Y (by simp [hY])) (h.g Y (by simp [hY]))
/-- The last block's instructions alone find nothing: what its end finds. -/
theorem blk_ins0 {labs : List Int} {B' : BlkM} (hp : B'.phis = []) (hi : ∀ q ∈ B'.ins, insE q = 0) : blkE labs B' = lastE labs B'.e B'.a B'.y B'.n := by
  unfold blkE
  rw [hp, List.map_nil, List.nil_append, firstE_app _ _ (fun x hx => ?_), firstE_one]
  obtain ⟨q, hq, rfl⟩ := List.mem_map.1 hx
  exact hi q hq
theorem progL_lt {s : SmlM} (h : s.bs.length ≤ 8) {x : Int} (hx : x ∈ progL s) : x < 100 := by
  unfold progL at hx
  obtain ⟨i, hi, rfl⟩ := List.mem_map.1 hx
  have := List.mem_range.1 hi
  have hl := len_in s h
  exact (labV_in (i := i) (by omega)).2
theorem wf_last {s : SmlM} {init : List BlkM} {B B' : BlkM} (h : Prog1 s (init ++ [B])) (hB : BlkWf B') : ∀ x ∈ init ++ [B'], BlkWf x := fun x hx => by
  rcases List.mem_append.1 hx with h1 | h1
  · exact h.wf x (by simp [h1])
  · simp at h1; subst h1; exact hB
/-- Check, where an instruction has been put ahead of the last block's. -/
theorem check_add {s : SmlM} {init : List BlkM} {B : BlkM} (h8 : s.bs.length ≤ 8) (h : Prog1 s (init ++ [B])) (x : InsM) (v : Value) : checkE (init ++ [{ B with iv := v, ins := x :: B.ins }]) = insE x ∧ countM (init ++ [{ B with iv := v, ins := x :: B.ins }]) < 4611686018427387904 := by
  have hs := h.size B (by simp)
  have hc := check_last (B' := { B with iv := v, ins := x :: B.ins }) h8 h rfl (by unfold sizeB at hs ⊢; simp only [List.length_cons]; omega)
  refine ⟨?_, hc.2⟩
  rw [hc.1]
  have h0 := good_blk (h.p B (by simp)) (h.g B (by simp))
  have hp := h.p B (by simp)
  unfold blkE at h0 ⊢
  simp only [hp, List.map_nil, List.nil_append, List.map_cons, List.cons_append] at h0 ⊢
  by_cases hx : insE x = 0
  · rw [firstE_zero _ _ hx, h0, hx]
  · rw [firstE_stop _ _ hx]
theorem labsE_bad {x : Int} (hx : ¬ (0 ≤ x ∧ x < 100000)) : ∀ (l seen : List Int), (∀ y ∈ l, 0 ≤ y ∧ y < 100000) → l.Nodup → (∀ y ∈ l, ¬ y ∈ seen) → labsE (l ++ [x]) seen = 2
  | [], seen, _, _, _ => by simp only [List.nil_append, labsE]; rw [if_pos hx]
  | y :: r, seen, h, hn, hs => by
    rw [List.cons_append]; unfold labsE
    rw [if_neg (not_not_intro (h y (by simp))), if_neg (hs y (by simp))]
    have hn2 := List.nodup_cons.1 hn
    exact labsE_bad hx r (y :: seen) (fun z hz => h z (by simp [hz])) hn2.2 (fun z hz hm => by
      rcases List.mem_cons.1 hm with e | e
      · subst e; exact hn2.1 hz
      · exact hs z (by simp [hz]) e)
theorem labsE_dup {x : Int} (hx : 0 ≤ x ∧ x < 100000) : ∀ (l seen : List Int), (∀ y ∈ l, 0 ≤ y ∧ y < 100000) → l.Nodup → (∀ y ∈ l, ¬ y ∈ seen) → (x ∈ l ∨ x ∈ seen) → labsE (l ++ [x]) seen = 8
  | [], seen, _, _, _, hm => by
    rcases hm with h | h
    · simp at h
    · simp only [List.nil_append, labsE]; rw [if_neg (not_not_intro hx), if_pos h]
  | y :: r, seen, h, hn, hs, hm => by
    rw [List.cons_append]; unfold labsE
    rw [if_neg (not_not_intro (h y (by simp))), if_neg (hs y (by simp))]
    have hn2 := List.nodup_cons.1 hn
    refine labsE_dup hx r (y :: seen) (fun z hz => h z (by simp [hz])) hn2.2 (fun z hz hm => ?_) ?_
    · rcases List.mem_cons.1 hm with e | e
      · subst e; exact hn2.1 hz
      · exact hs z (by simp [hz]) e
    · rcases hm with h1 | h1
      · rcases List.mem_cons.1 h1 with e | e
        · subst e; exact .inr (by simp)
        · exact .inl e
      · exact .inr (by simp [h1])
theorem init_labs {s : SmlM} {init : List BlkM} {B : BlkM} (h8 : s.bs.length ≤ 8) (h : Prog1 s (init ++ [B])) : (∀ y ∈ labsOf init, 0 ≤ y ∧ y < 100000) ∧ (labsOf init).Nodup := by
  have hl : labsOf init ++ [B.lab] = progL s := by rw [← h.l]; unfold labsOf; simp
  refine ⟨fun y hy => progL_small h8 (by rw [← hl]; simp [hy]), ?_⟩
  have := progL_nodup s
  rw [← hl] at this
  exact (List.nodup_append.1 this).1
/-- Check, where the last block's label is out of range. -/
theorem check_lab {s : SmlM} {init : List BlkM} {B : BlkM} (h8 : s.bs.length ≤ 8) (h : Prog1 s (init ++ [B])) {n : Int} (hn : ¬ (0 ≤ n ∧ n < 100000)) : checkE (init ++ [{ B with lab := n }]) = 2 ∧ countM (init ++ [{ B with lab := n }]) < 4611686018427387904 := by
  have h1 := h.count h8
  have hc : countM (init ++ [{ B with lab := n }]) = countM (init ++ [B]) := by unfold countM; simp
  have hln := h.n
  have hle := len_in s h8
  refine ⟨?_, by omega⟩
  have hi := init_labs h8 h
  have hls : labsE (labsOf (init ++ [{ B with lab := n }])) [] = 2 := by
    have : labsOf (init ++ [{ B with lab := n }]) = labsOf init ++ [n] := by unfold labsOf; simp
    rw [this]; exact labsE_bad hn _ _ hi.1 hi.2 (fun _ _ => by simp)
  unfold checkE
  rw [if_neg (by simp at hln ⊢; omega), if_neg (by omega), hls]; rfl
/-- Check, where the last block stands twice. -/
theorem check_twice {s : SmlM} {bs : List BlkM} {C : BlkM} (h8 : s.bs.length ≤ 8) (h : Prog1 s bs) (hC : C.lab ∈ progL s) (hz : sizeB C ≤ 16) : checkE (bs ++ [C]) = 8 ∧ countM (bs ++ [C]) < 4611686018427387904 := by
  have hln := h.n
  have hle := len_in s h8
  have hc : countM (bs ++ [C]) ≤ 1000 := by
    have := cnt16_le bs h.size
    rw [count_eq, cnt2_append, cnt2_cons]
    have : cnt2 ([] : List BlkM) = 0 := rfl
    simp at hln ⊢; omega
  refine ⟨?_, by omega⟩
  have hls : labsE (labsOf (bs ++ [C])) [] = 8 := by
    have : labsOf (bs ++ [C]) = progL s ++ [C.lab] := by rw [← h.l]; unfold labsOf; simp
    rw [this]; exact labsE_dup (progL_small h8 hC) _ _ (fun x hx => progL_small h8 hx) (progL_nodup s) (fun _ _ => by simp) (.inl hC)
  unfold checkE
  rw [if_neg (by simp at hln ⊢; omega), if_neg (by omega), hls]; rfl
/-- Check, where there are too many instructions in the last block. -/
theorem check_size {s : SmlM} {init : List BlkM} {B B' : BlkM} (h8 : s.bs.length ≤ 8) (h : Prog1 s (init ++ [B])) (hz : sizeB B' = 4000) : checkE (init ++ [B']) = 3 ∧ countM (init ++ [B']) < 4611686018427387904 := by
  have hln := h.n
  have hle := len_in s h8
  have h1 := cnt16_le init (fun x hx => h.size x (by simp [hx]))
  have hc : countM (init ++ [B']) = init.length + 1 + cnt2 init + 4000 := by
    rw [count_eq, cnt2_append, cnt2_cons, hz]
    have : cnt2 ([] : List BlkM) = 0 := rfl
    simp; omega
  simp at hln
  refine ⟨?_, by omega⟩
  unfold checkE
  rw [if_neg (by simp; omega), if_pos (by omega)]
/-- A block's cells say nothing of what its slices show. -/
theorem sl_phis {w : World} {v : Value} {n : Nat} {init : List BlkM} {B : BlkM} {ps : List PhiM} (h : Sl w 43 7 v n (blkC (init ++ [B]))) : Sl w 43 7 v n (blkC (init ++ [{ B with phis := ps }])) := by
  rw [blkC_snoc] at h ⊢; exact h
end Go.Proofs.YtkcblhaldahooaaDoor


/- IrChecks: its closures. -/
set_option linter.unusedSimpArgs false
set_option linter.unusedVariables false
namespace Go.Proofs.YtkcblhaldahooaaDoor
open Go.RowKit Go.Sort Go.Maps

def outE (n lo hi : Int) : Int := if n < lo ∨ hi < n then 2 else 0
section
variable {P : Program}
/-- append of a slice that may be nil. -/
theorem sl_append_s (w : World) {t e : TypeId} {z : Value} {sz bytes : Nat} (ht : P.underlying t = some (.slice e)) (hinfo : (P.info? e).map (fun i => (i.zero, i.size, i.bytes)) = some (some z, sz, bytes)) (hz : z.cells.size = sz) (hb : 0 < bytes)
    {b off n cap : Nat} {cs : List Value} (h : Sl w e sz (.slice (some ⟨b, off, none⟩) n cap) n cs) {v2 : Value} {m : Nat} {news : List Value} (h2 : Sl w e sz v2 m news) (h1 : ∀ u ∈ news, u.oneCell' = true)
    (hbig : (n + m) * bytes ≤ 140737488355328) (ty : TypeId) :
    ∃ v' w', (Builtin.append_ #[t, t] ty #[.slice (some ⟨b, off, none⟩) n cap, v2]).run P w = .ok v' w' ∧ Sl w' e sz v' (n + m) (cs ++ news) ∧ Tch (blks (.slice (some ⟨b, off, none⟩) n cap)) w w' ∧ w.drawn ≤ w'.drawn ∧ ∀ x ∈ blks v', x ∈ blks (.slice (some ⟨b, off, none⟩) n cap) ∨ w.heap.size ≤ x := by
  obtain ⟨h0, ⟨rfl, rfl⟩ | ⟨b2, off2, cap2, cur, rfl, g1, g2, g3, g4, g5⟩⟩ := h2
  · obtain ⟨i, hi, hz0, hzs, hzb⟩ := info_parts hinfo
    obtain rfl : news = [] := List.eq_nil_of_length_eq_zero (by simpa using h0)
    have hle : n ≤ cap := by
      obtain ⟨_, ⟨q, _⟩ | ⟨_, _, _, _, q, _, q2, _⟩⟩ := h
      · cases q
      · cases q; exact q2
    have hr := run_append_room_src (P := P) w t t ty e i ht hi b off n cap _ 0 [] (Src.ofNil w ht 0) (by omega) (fun j hj => by simp at hj) (fun j hj => by simp at hj)
    exact ⟨_, _, hr, by show Sl w e sz _ (n + 0) (cs ++ []); simpa using h, Tch.refl _ _, Nat.le_refl _, fun x hx => .inl hx⟩
  · have hsl : Sl w e sz (.slice (some ⟨b2, off2, none⟩) m cap2) m news := ⟨h0, .inr ⟨b2, off2, cap2, cur, rfl, g1, g2, g3, g4, g5⟩⟩
    exact sl_append_t w ht hinfo hz hb h ⟨b2, off2, none⟩ m cap2 news h0 (fun j u hj => by rw [Addr.add_lit]; exact hsl.cell.2.1 j u hj) h1 hbig ty
theorem step_append_s {ops : Array Oper} {o : Oper} {a : Act} {w : World} {K : Act → World → Prop} {Q : Exit → Act → World → Prop} {E : Prop} (hgd : o.guard = none) (s x : Operand) (t : TypeId)
    (ho : o.op = .call { callee := .builtin .append, args := #[s, x], argTypes := #[t, t] }) {e : TypeId} {z : Value} {sz bytes : Nat} (ht : P.underlying t = some (.slice e)) (hinfo : (P.info? e).map (fun i => (i.zero, i.size, i.bytes)) = some (some z, sz, bytes)) (hz : z.cells.size = sz) (hb : 0 < bytes)
    {b off n cap : Nat} {cs : List Value} (hs : a.eval s = .slice (some ⟨b, off, none⟩) n cap) (h : Sl w e sz (.slice (some ⟨b, off, none⟩) n cap) n cs) (v2 : Value) {m : Nat} {news : List Value} (hx : a.eval x = v2) (h2 : Sl w e sz v2 m news) (h1 : ∀ u ∈ news, u.oneCell' = true)
    (hbig : (n + m) * bytes ≤ 140737488355328)
    (hK : ∀ v' w', Sl w' e sz v' (n + m) (cs ++ news) → Tch (blks (.slice (some ⟨b, off, none⟩) n cap)) w w' → w.drawn ≤ w'.drawn → (∀ x ∈ blks v', x ∈ blks (.slice (some ⟨b, off, none⟩) n cap) ∨ w.heap.size ≤ x) → K (a.put o.dst v') w') : if Region.wanted o (yielded ops a.tmps) = true then Oper.wp P o a w K Q else E := by
  rw [if_pos (by simp [Region.wanted, hgd])]
  obtain ⟨v', w', p1, p2, p3, p4, p5⟩ := sl_append_s w ht hinfo hz hb h h2 h1 hbig o.type
  exact Lib.wp_append_run w s x t t ho _ _ hs hx _ _ p1 (hK v' w' p2 p3 p4 p5)
end
theorem tch_val {S : List Nat} {w w' : World} (t : Tch S w w') {p : Addr} {u : Value} (hc : w.cell? p = some u) (hn : ¬ p.block ∈ S) : w'.cell? p = some u := by
  rw [← hc]; unfold World.cell?; rw [t.block _ (cell_lt hc) hn]
theorem tch_frozen {S : List Nat} {w w' : World} (t : Tch S w w') {p : Addr} (hl : p.block < w.heap.size) (hn : ¬ p.block ∈ S) : w'.frozen? p = w.frozen? p := by
  unfold World.frozen?; rw [t.block _ hl hn]
theorem ins_one (l : List InsM) : ∀ u ∈ insC l, u.oneCell' = true := fun u hu => by
  unfold insC at hu
  obtain ⟨x, _, hx⟩ := List.mem_flatMap.1 hu
  simp [InsM.cells] at hx
  rcases hx with rfl | rfl | rfl | rfl | rfl | rfl | rfl <;> rfl
theorem add_keep {w w' : World} (g : Gr w w') {qb b p hb : Nat} {x : InsM} (h : w.cell? ⟨qb, 0, none⟩ = some (.pointer (some ⟨b, p, none⟩)) ∧ w.cell? ⟨hb, 0, none⟩ = some (.int .u8 x.k) ∧ w.cell? ⟨hb, 1, none⟩ = some (.int .u8 x.o) ∧ w.cell? ⟨hb, 2, none⟩ = some (.int .i64 x.d) ∧ w.cell? ⟨hb, 3, none⟩ = some (.int .i64 x.a) ∧ w.cell? ⟨hb, 4, none⟩ = some (.int .i64 x.b) ∧ w.cell? ⟨hb, 5, none⟩ = some (.int .i64 x.n) ∧ w.cell? ⟨hb, 6, none⟩ = some (.int .i64 x.s)) : w'.cell? ⟨qb, 0, none⟩ = some (.pointer (some ⟨b, p, none⟩)) ∧ w'.cell? ⟨hb, 0, none⟩ = some (.int .u8 x.k) ∧ w'.cell? ⟨hb, 1, none⟩ = some (.int .u8 x.o) ∧ w'.cell? ⟨hb, 2, none⟩ = some (.int .i64 x.d) ∧ w'.cell? ⟨hb, 3, none⟩ = some (.int .i64 x.a) ∧ w'.cell? ⟨hb, 4, none⟩ = some (.int .i64 x.b) ∧ w'.cell? ⟨hb, 5, none⟩ = some (.int .i64 x.n) ∧ w'.cell? ⟨hb, 6, none⟩ = some (.int .i64 x.s) := by
  obtain ⟨h0, h1, h2, h3, h4, h5, h6, h7⟩ := h
  exact ⟨g.val h0, g.val h1, g.val h2, g.val h3, g.val h4, g.val h5, g.val h6, g.val h7⟩
theorem add_set {w : World} {qb b p hb : Nat} {x : InsM} (h : w.cell? ⟨qb, 0, none⟩ = some (.pointer (some ⟨b, p, none⟩)) ∧ w.cell? ⟨hb, 0, none⟩ = some (.int .u8 x.k) ∧ w.cell? ⟨hb, 1, none⟩ = some (.int .u8 x.o) ∧ w.cell? ⟨hb, 2, none⟩ = some (.int .i64 x.d) ∧ w.cell? ⟨hb, 3, none⟩ = some (.int .i64 x.a) ∧ w.cell? ⟨hb, 4, none⟩ = some (.int .i64 x.b) ∧ w.cell? ⟨hb, 5, none⟩ = some (.int .i64 x.n) ∧ w.cell? ⟨hb, 6, none⟩ = some (.int .i64 x.s)) (hq : ¬ qb = b) (hh : ¬ hb = b) (o : Nat) (u : Value) : (w.setCell ⟨b, o, none⟩ u).cell? ⟨qb, 0, none⟩ = some (.pointer (some ⟨b, p, none⟩)) ∧ (w.setCell ⟨b, o, none⟩ u).cell? ⟨hb, 0, none⟩ = some (.int .u8 x.k) ∧ (w.setCell ⟨b, o, none⟩ u).cell? ⟨hb, 1, none⟩ = some (.int .u8 x.o) ∧ (w.setCell ⟨b, o, none⟩ u).cell? ⟨hb, 2, none⟩ = some (.int .i64 x.d) ∧ (w.setCell ⟨b, o, none⟩ u).cell? ⟨hb, 3, none⟩ = some (.int .i64 x.a) ∧ (w.setCell ⟨b, o, none⟩ u).cell? ⟨hb, 4, none⟩ = some (.int .i64 x.b) ∧ (w.setCell ⟨b, o, none⟩ u).cell? ⟨hb, 5, none⟩ = some (.int .i64 x.n) ∧ (w.setCell ⟨b, o, none⟩ u).cell? ⟨hb, 6, none⟩ = some (.int .i64 x.s) := by
  have f : ∀ k j, ¬ k = b → (w.setCell ⟨b, o, none⟩ u).cell? ⟨k, j, none⟩ = w.cell? ⟨k, j, none⟩ := fun k j hk => World.cell?_setCell_far _ _ _ _ (fun e => hk e.symm)
  simp only [f qb _ hq, f hb _ hh]; exact h
end Go.Proofs.YtkcblhaldahooaaDoor


/- The greatest register: what calls of Block.regs and of Regs come to. -/
set_option linter.unusedSimpArgs false
set_option linter.unusedVariables false
namespace Go.Proofs.YtkcblhaldahooaaDoor
open Go.RowKit Go.Sort Go.Maps

/-- One above the greatest, of n and those. -/
def seeL (n : Int) (l : List Int) : Int := l.foldl (fun n r => max n (r + 1)) n
theorem seeL_snoc (n : Int) (l : List Int) (r : Int) : seeL n (l ++ [r]) = max (seeL n l) (r + 1) := by unfold seeL; rw [List.foldl_append]; rfl
/-- A cell of its own holds the number so far. -/
structure Reg (W : World) (nb : Nat) (n : Int) (wr : World) : Prop where
  t : Tch [nb] W wr
  d : W.drawn ≤ wr.drawn
  o : wr.heap[nb]? = some (.cells #[.int .i64 n] 3 (0, 0))
theorem Reg.gr {W wr w' : World} {nb : Nat} {n : Int} (h : Reg W nb n wr) (g : Gr wr w') : Reg W nb n w' := ⟨h.t.trans (g.tch.mono (by simp)), Nat.le_trans h.d g.drawn, g.obj h.o⟩
theorem Reg.set {W wr : World} {nb : Nat} {n : Int} (h : Reg W nb n wr) (m : Int) : Reg W nb m (wr.setCell ⟨nb, 0, none⟩ (.int .i64 m)) :=
  ⟨h.t.setCell (.inl (by simp)) _, h.d, by rw [heap_setCell_same _ _ _ _ _ _ h.o]; rfl⟩
theorem Reg.cell {W wr : World} {nb : Nat} {n : Int} (h : Reg W nb n wr) : wr.cell? ⟨nb, 0, none⟩ = some (.int .i64 n) := by rw [cell_of_row _ _ _ _ _ _ h.o]; rfl
theorem Reg.fz {W wr : World} {nb : Nat} {n : Int} (h : Reg W nb n wr) : ∀ j, wr.frozen? ⟨nb, j, none⟩ = false := fun j => frozen_of_row _ _ _ _ _ h.o
theorem Reg.lt {W wr : World} {nb : Nat} {n : Int} (h : Reg W nb n wr) : nb < wr.heap.size := lt_of_obj h.o
theorem Reg.val {W wr : World} {nb : Nat} {n : Int} (h : Reg W nb n wr) {p : Addr} {u : Value} (hc : W.cell? p = some u) (hn : ¬ p.block = nb) : wr.cell? p = some u := tch_val h.t hc (by simpa using hn)
theorem Reg.sl {W wr : World} {nb : Nat} {n : Int} (h : Reg W nb n wr) {e : TypeId} {sz m : Nat} {v : Value} {cs : List Value} (hs : Sl W e sz v m cs) (hn : ¬ nb ∈ blks v) : Sl wr e sz v m cs := hs.kept h.t (fun b hb hm => by simp at hm; subst hm; exact hn hb)
theorem Reg.out {w W wr : World} {nb : Nat} {n : Int} (h : Reg W nb n wr) (g : Gr w W) (hn : w.heap.size ≤ nb) : Gr w wr := gr_tch g h.t h.d (by simpa using hn)
theorem Reg.self {W wr : World} {nb : Nat} {n : Int} (h : Reg W nb n wr) : Reg wr nb n wr := ⟨Tch.refl _ _, Nat.le_refl _, h.o⟩
theorem Reg.trans {W wr w' : World} {nb : Nat} {n m : Int} (h : Reg W nb n wr) (k : Reg wr nb m w') : Reg W nb m w' := ⟨h.t.trans k.t, Nat.le_trans h.d k.d, k.o⟩
set_option maxHeartbeats 400000 in
theorem see_any (r : Int) (hr : -4611686018427387904 ≤ r ∧ r ≤ 4611686018427387904) (nb : Nat) (n : Int) (W w : World) (h : Reg W nb n w) :
    Calls Tryd.prog 69 #[.int .i64 r, .pointer (some ⟨nb, 0, none⟩)] w fun e w' => e = .returned (.tuple #[]) ∧ Reg W nb (max n (r + 1)) w' := by
  have H := hid h
  have c0 := h.cell
  have fz := h.fz
  have l0 := h.lt
  clear h
  have wr : IntKind.i64.wrap (r + 1) = r + 1 := by rw [IntKind.wrap_i64]; omega
  by_cases hlt : n < r + 1
  · have hm : Hid (max n (r + 1) = r + 1) := by show _ = _; omega
    go_enter Tryd.func69, Tryd.ntmps69
    go_wp2
    refine bodyPost_end (results_none rfl _ _ _) rfl ?_
    exact ⟨rfl, by rw [hm.out]; exact H.out.set _⟩
  · have hm : Hid (max n (r + 1) = n) := by show _ = _; omega
    go_enter Tryd.func69, Tryd.ntmps69
    go_wp2
    refine bodyPost_end (results_none rfl _ _ _) rfl ?_
    exact ⟨rfl, by rw [hm.out]; exact H.out.set _⟩
end Go.Proofs.YtkcblhaldahooaaDoor


/- Registers and counts of programs, as numbers: of two programs' blocks together, of one more instruction. -/
set_option linter.unusedSimpArgs false
set_option linter.unusedVariables false
namespace Go.Proofs.YtkcblhaldahooaaDoor
open Go.RowKit Go.Sort Go.Maps

def phiR (p : PhiM) : List Int := p.d :: p.arg
def insR (x : InsM) : List Int := (if kbb x.k 1 then [io x.k 1 x.d] else []) ++ rds x.k x.a x.b
def lastR (B : BlkM) : List Int := if lreadsB B.e then [B.a] else []
def regsL (B : BlkM) : List Int := B.phis.flatMap phiR ++ B.ins.flatMap insR ++ lastR B
def Sm (r : Int) : Prop := -4611686018427387904 ≤ r ∧ r ≤ 4611686018427387904
theorem take_flat {α : Type} {f : α → List Int} {l : List α} {i : Nat} {x : α} (h : l[i]? = some x) : (l.take (i + 1)).flatMap f = (l.take i).flatMap f ++ f x := by
  obtain ⟨hi, rfl⟩ := List.getElem?_eq_some_iff.1 h
  rw [List.take_succ_eq_append_getElem hi, List.flatMap_append, List.flatMap_cons, List.flatMap_nil, List.append_nil]
theorem take_snocI {l : List Int} {i : Nat} (h : i < l.length) : l.take (i + 1) = l.take i ++ [l[i]] := List.take_succ_eq_append_getElem h

theorem seeL_max : ∀ (l : List Int) (n m : Int), seeL (max n m) l = max n (seeL m l)
  | [], n, m => rfl
  | r :: l, n, m => by
    have h1 : seeL (max n m) (r :: l) = seeL (max n (max m (r + 1))) l := by show seeL (max (max n m) (r + 1)) l = _; rw [Int.max_assoc]
    rw [h1, seeL_max l]; rfl
theorem seeL_app (n : Int) (l m : List Int) : seeL n (l ++ m) = seeL (seeL n l) m := by unfold seeL; rw [List.foldl_append]
theorem seeL_mid (l m : List Int) (r : Int) : seeL 0 (l ++ [r] ++ m) = max (seeL 0 (l ++ m)) (r + 1) := by
  rw [seeL_app, seeL_snoc, Int.max_comm, seeL_max, ← seeL_app, Int.max_comm]
theorem seeL_ge : ∀ (l : List Int) (n : Int), n ≤ seeL n l
  | [], n => Int.le_refl _
  | r :: l, n => Int.le_trans (Int.le_max_left n (r + 1)) (seeL_ge l (max n (r + 1)))
theorem seeL_le : ∀ (l : List Int) (n : Int), n ≤ 4611686018427387905 → (∀ r ∈ l, Sm r) → seeL n l ≤ 4611686018427387905
  | [], n, h, _ => h
  | r :: l, n, h, hs => by
    have := (hs r (by simp)).2
    exact seeL_le l (max n (r + 1)) (by omega) (fun x hx => hs x (by simp [hx]))
def regsF (n : Int) (bs : List BlkM) : Int := bs.foldl (fun n B => max n (seeL 0 (regsL B))) n
def regsT (bs : List BlkM) : Int := regsF 0 bs
theorem regsF_max : ∀ (bs : List BlkM) (n m : Int), regsF (max n m) bs = max n (regsF m bs)
  | [], n, m => rfl
  | B :: l, n, m => by
    have h1 : regsF (max n m) (B :: l) = regsF (max n (max m (seeL 0 (regsL B)))) l := by show regsF (max (max n m) _) l = _; rw [Int.max_assoc]
    rw [h1, regsF_max l]; rfl
theorem regsF_ge : ∀ (l : List BlkM) (n : Int), n ≤ regsF n l
  | [], n => Int.le_refl _
  | B :: l, n => Int.le_trans (Int.le_max_left n _) (regsF_ge l (max n _))
theorem regsT_app (bs cs : List BlkM) : regsT (bs ++ cs) = max (regsT bs) (regsT cs) := by
  have h0 : 0 ≤ regsT bs := regsF_ge _ _
  have h1 : regsT (bs ++ cs) = regsF (regsT bs) cs := by unfold regsT regsF; rw [List.foldl_append]
  rw [h1, ← Int.max_eq_left h0, regsF_max, Int.max_eq_left h0]; rfl
theorem regsT_take {bs : List BlkM} {i : Nat} {B : BlkM} (h : bs[i]? = some B) : regsT (bs.take (i + 1)) = max (regsT (bs.take i)) (seeL 0 (regsL B)) := by
  obtain ⟨hi, rfl⟩ := List.getElem?_eq_some_iff.1 h
  rw [List.take_succ_eq_append_getElem hi]
  unfold regsT regsF; rw [List.foldl_append]; rfl
/-- One more instruction that sets a register, behind the first block's. -/
theorem regsT_add (B : BlkM) (rest : List BlkM) (v : Value) (n : Int) : regsT ({ B with iv := v, ins := B.ins ++ [⟨0, 0, n, 0, 0, 0, 0⟩] } :: rest) = max (regsT (B :: rest)) (n + 1) := by
  have h1 : regsL { B with iv := v, ins := B.ins ++ [⟨0, 0, n, 0, 0, 0, 0⟩] } = B.phis.flatMap phiR ++ B.ins.flatMap insR ++ [n] ++ lastR B := by
    unfold regsL
    simp only [List.flatMap_append, List.flatMap_cons, List.flatMap_nil, List.append_nil, List.append_assoc]
    rfl
  have h2 : seeL 0 (regsL { B with iv := v, ins := B.ins ++ [⟨0, 0, n, 0, 0, 0, 0⟩] }) = max (n + 1) (seeL 0 (regsL B)) := by rw [h1, seeL_mid, Int.max_comm]; rfl
  have h3 : regsT ({ B with iv := v, ins := B.ins ++ [⟨0, 0, n, 0, 0, 0, 0⟩] } :: rest) = regsF (max (n + 1) (max 0 (seeL 0 (regsL B)))) rest := by
    show regsF (max 0 (seeL 0 (regsL { B with iv := v, ins := B.ins ++ [⟨0, 0, n, 0, 0, 0, 0⟩] }))) rest = _
    rw [h2]; congr 1; omega
  rw [h3, regsF_max, Int.max_comm]; rfl
theorem count_add (B : BlkM) (rest : List BlkM) (v : Value) (x : InsM) : countM ({ B with iv := v, ins := B.ins ++ [x] } :: rest) = countM (B :: rest) + 1 := by
  unfold countM; simp; omega
theorem count_app (bs cs : List BlkM) : countM (bs ++ cs) = countM bs + countM cs := by
  rw [count_eq, count_eq, count_eq, cnt2_append, List.length_append]; omega
/-- What the counts look at: blocks whose parts are alike have the same. -/
theorem ab_count : ∀ {bs cs : List BlkM}, bs.map BlkM.ab = cs.map BlkM.ab → (∀ B ∈ bs, B.phis = []) → (∀ B ∈ cs, B.phis = []) → countM bs = countM cs ∧ regsT bs = regsT cs := by
  have key : ∀ (bs cs : List BlkM) (n : Int), bs.map BlkM.ab = cs.map BlkM.ab → (∀ B ∈ bs, B.phis = []) → (∀ B ∈ cs, B.phis = []) → countM bs = countM cs ∧ regsF n bs = regsF n cs := by
    intro bs
    induction bs with
    | nil => intro cs n h _ _; cases cs with
      | nil => exact ⟨rfl, rfl⟩
      | cons c r => simp at h
    | cons b r ih => intro cs n h hb hc; cases cs with
      | nil => simp at h
      | cons c s =>
        simp only [List.map_cons, List.cons.injEq] at h
        obtain ⟨h1, h2⟩ := h
        have hb0 := hb b (by simp)
        have hc0 := hc c (by simp)
        have e1 : b.ins = c.ins := congrArg ABlk.ins h1
        have e2 : b.e = c.e := congrArg ABlk.e h1
        have e3 : b.a = c.a := congrArg ABlk.a h1
        have er : regsL b = regsL c := by unfold regsL lastR; rw [hb0, hc0, e1, e2, e3]
        have i1 := ih s (max n (seeL 0 (regsL c))) h2 (fun B hB => hb B (by simp [hB])) (fun B hB => hc B (by simp [hB]))
        refine ⟨?_, ?_⟩
        · rw [count_eq, count_eq, cnt2_cons, cnt2_cons]
          have := i1.1
          rw [count_eq, count_eq] at this
          have e4 : sizeB b = sizeB c := by unfold sizeB; rw [hb0, hc0, e1]
          simp only [List.length_cons]; omega
        · show regsF (max n (seeL 0 (regsL b))) r = regsF (max n (seeL 0 (regsL c))) s
          rw [er]; exact i1.2
  intro bs cs h hb hc
  exact key bs cs 0 h hb hc
theorem labsE_dup2 {x : Int} (hx : 0 ≤ x ∧ x < 100000) (rest : List Int) : ∀ (l seen : List Int), (∀ y ∈ l, 0 ≤ y ∧ y < 100000) → l.Nodup → (∀ y ∈ l, ¬ y ∈ seen) → (x ∈ l ∨ x ∈ seen) → labsE (l ++ x :: rest) seen = 8
  | [], seen, _, _, _, hm => by
    rcases hm with h | h
    · simp at h
    · simp only [List.nil_append, labsE]; rw [if_neg (not_not_intro hx), if_pos h]
  | y :: r, seen, h, hn, hs, hm => by
    rw [List.cons_append]; unfold labsE
    rw [if_neg (not_not_intro (h y (by simp))), if_neg (hs y (by simp))]
    have hn2 := List.nodup_cons.1 hn
    refine labsE_dup2 hx rest r (y :: seen) (fun z hz => h z (by simp [hz])) hn2.2 (fun z hz hm => ?_) ?_
    · rcases List.mem_cons.1 hm with e | e
      · subst e; exact hn2.1 hz
      · exact hs z (by simp [hz]) e
    · rcases hm with h1 | h1
      · rcases List.mem_cons.1 h1 with e | e
        · subst e; exact .inr (by simp)
        · exact .inl e
      · exact .inr (by simp [h1])
/-- Check, of two programs' blocks together. -/
theorem check_both {s t : SmlM} {bs cs : List BlkM} (h8 : s.bs.length ≤ 8) (g8 : t.bs.length ≤ 8) (h : Prog1 s bs) (g : Prog1 t cs) : checkE (bs ++ cs) = 8 ∧ countM (bs ++ cs) ≤ 272 := by
  have c1 := h.count h8
  have c2 := g.count g8
  have l1 := len_in s h8
  have l2 := len_in t g8
  have n1 := h.n
  have n2 := g.n
  have hc : countM (bs ++ cs) ≤ 272 := by rw [count_app]; omega
  refine ⟨?_, hc⟩
  obtain ⟨rest, hr⟩ : ∃ rest, progL t = labV 0 :: rest := by
    unfold progL
    obtain ⟨m, hm⟩ : ∃ m, lenM t = m + 1 := ⟨lenM t - 1, by omega⟩
    rw [hm, List.range_succ_eq_map, List.map_cons]; exact ⟨_, rfl⟩
  have m0 : labV 0 ∈ progL s := mem_progL (i := 0) (by omega)
  have hls : labsE (labsOf (bs ++ cs)) [] = 8 := by
    have : labsOf (bs ++ cs) = progL s ++ labV 0 :: rest := by rw [← h.l, ← hr, ← g.l]; unfold labsOf; simp
    rw [this]; exact labsE_dup2 (progL_small h8 m0) rest _ _ (fun x hx => progL_small h8 hx) (progL_nodup s) (fun _ _ => by simp) (.inl m0)
  unfold checkE
  rw [if_neg (by rw [List.length_append]; omega), if_neg (by omega), hls]; rfl
theorem reg_sm {r : Int} (h : regB r = true) : Sm r := by
  unfold regB at h; have := of_decide_eq_true h; unfold Sm; omega
theorem ins_sm {x : InsM} (h : insE x = 0) : ∀ r ∈ insR x, Sm r := by
  have hr : insRangeB x = true := by
    unfold insE at h
    by_cases h1 : insKindB x = true
    · rw [if_pos h1] at h; omega
    · rw [if_neg h1] at h
      by_cases h2 : insOnlyB x = false
      · rw [if_pos h2] at h; omega
      · rw [if_neg h2] at h
        by_cases h3 : insRangeB x = false
        · rw [if_pos h3] at h; omega
        · simpa using h3
  unfold insRangeB at hr
  simp only [Bool.and_eq_true] at hr
  obtain ⟨⟨⟨hd, ha⟩, hb⟩, _⟩ := hr
  intro r hm
  unfold insR rds rdsB at hm
  simp only [List.mem_append] at hm
  rcases hm with hm | hm | hm
  · split at hm
    · rename_i hk; simp at hm; subst hm; rw [io_yes hk]; exact reg_sm hd
    · simp at hm
  · split at hm
    · simp at hm; subst hm; exact reg_sm ha
    · simp at hm
  · split at hm
    · simp at hm; subst hm; exact reg_sm hb
    · simp at hm
theorem last_sm {labs : List Int} {B : BlkM} (h : lastE labs B.e B.a B.y B.n = 0) : ∀ r ∈ lastR B, Sm r := by
  have ha : regB B.a = true := by
    unfold lastE at h
    by_cases h1 : 4 ≤ B.e
    · rw [if_pos h1] at h; omega
    · rw [if_neg h1] at h
      by_cases h2 : lastOnlyB B.e B.a B.y B.n = false
      · rw [if_pos h2] at h; omega
      · rw [if_neg h2] at h
        by_cases h3 : regB B.a = false
        · rw [if_pos h3] at h; omega
        · simpa using h3
  intro r hm
  unfold lastR at hm
  split at hm
  · simp at hm; subst hm; exact reg_sm ha
  · simp at hm
theorem good_sm {labs : List Int} {B : BlkM} (hp : B.phis = []) (h : Good labs B.ab) : ∀ r ∈ regsL B, Sm r := fun r hr => by
  unfold regsL at hr
  rw [hp] at hr
  simp only [List.flatMap_nil, List.nil_append, List.mem_append, List.mem_flatMap] at hr
  rcases hr with ⟨x, hx, hr⟩ | hr
  · exact ins_sm (h.i x hx).1 r hr
  · exact last_sm (B := B) h.l r hr
end Go.Proofs.YtkcblhaldahooaaDoor


/- What calls of slices.Clone and of Program.Clone come to, where there is no phi. -/
set_option linter.unusedSimpArgs false
set_option linter.unusedVariables false
namespace Go.Proofs.YtkcblhaldahooaaDoor
open Go.RowKit Go.Sort Go.Maps

theorem blk_one {w : World} {l : List BlkM} (h : ∀ B ∈ l, BlkOk w B) : ∀ u ∈ blkC l, u.oneCell' = true := fun u hu => by
  unfold blkC at hu
  obtain ⟨x, hx, hu⟩ := List.mem_flatMap.1 hu
  obtain ⟨pa, pc, hp⟩ := (h x hx).p.shape
  obtain ⟨ia, ic, hi⟩ := (h x hx).i.shape
  simp [BlkM.cells, hp, hi] at hu
  rcases hu with rfl | rfl | rfl | rfl | rfl | rfl | rfl <;> rfl
set_option maxRecDepth 100000 in
set_option maxHeartbeats 1000000 in
theorem clone_ins (v : Value) (l : List InsM) (hl : l.length ≤ 1000) (w : World) (h : Sl w 36 7 v l.length (insC l)) :
    Calls Tryd.prog 40 #[v] w fun e w' => ∃ v', e = .returned v' ∧ Sl w' 36 7 v' l.length (insC l) ∧ Gr w w' ∧ ∀ x ∈ blks v', w.heap.size ≤ x := by
  have HS := hid h
  have HO := hid (ins_one l)
  have qT : ∀ (w : World) (a : Option Addr) (n c : Nat), (binOp .eql 37 (.slice a n c) (.slice none 0 0)).run Tryd.prog w = .ok (.bool a.isNone) w := fun w a n c => Lib.run_eql_slice_nil w _ _ a n c 0 0 Tryd.underlying37
  obtain ⟨h0, ⟨rfl, hn⟩ | ⟨b, off, cap, cur, rfl, g1, g2, g3, g4, g5⟩⟩ := h
  · go_enter Tryd.func40, Tryd.ntmps40
    go_wp2
    go_ret
    exact ⟨_, rfl, HS.out, Gr.refl _, by simp [blks]⟩
  · have HC := hid (fun (W : World) (g : Gr w W) => ((HS.out).gr g).cell.2.1)
    have HL := hid h0
    have lb := lt_of_obj g1
    obtain ⟨k, hk⟩ : ∃ k, l.length = k := ⟨_, rfl⟩
    rw [hk] at hl HL HS ⊢
    clear g1 g2 g3 g4 g5 h0 hk
    generalize insC l = cs at HC HL HS HO ⊢
    go_enter Tryd.func40, Tryd.ntmps40
    go_wp2_with (first | (at_builtin; refine wpList_append_sl _ rfl _ _ 37 rfl Tryd.underlying37 info_ins rfl (by decide) (.slice (some ⟨w.heap.size, 0, none⟩) 0 0) rfl (sl_new w _ rfl 36 7 0 [] rfl (by simp [maxLen])) ⟨b, off, none⟩ k cap rfl cs HL.out (fun j u hj => by rw [Addr.add_lit]; exact HC.out _ ((Gr.refl w).alloc _) j u hj) HO.out (by omega) ?_; intro v' w' hs' hq))
    obtain ⟨gq, hB⟩ := hq w ((Gr.refl w).alloc _) (by simp [blks])
    rw [Nat.zero_add, List.nil_append] at hs'
    obtain ⟨va', vc', rfl⟩ := hs'.shape
    have HS2 := hid hs'
    have HB := hid hB
    have HG := hid gq
    clear hs' hB gq hq
    go_wp2
    go_ret
    exact ⟨_, rfl, HS2.out, HG.out, HB.out⟩
set_option maxRecDepth 100000 in
set_option maxHeartbeats 1000000 in
theorem clone_blks (v : Value) (l : List BlkM) (hl : l.length ≤ 1000) (w : World) (h : Sl w 43 7 v l.length (blkC l)) (hb : ∀ B ∈ l, BlkOk w B) :
    Calls Tryd.prog 38 #[v] w fun e w' => ∃ v', e = .returned v' ∧ Sl w' 43 7 v' l.length (blkC l) ∧ Gr w w' ∧ ∀ x ∈ blks v', w.heap.size ≤ x := by
  have HS := hid h
  have HO := hid (blk_one hb)
  have qT : ∀ (w : World) (a : Option Addr) (n c : Nat), (binOp .eql 26 (.slice a n c) (.slice none 0 0)).run Tryd.prog w = .ok (.bool a.isNone) w := fun w a n c => Lib.run_eql_slice_nil w _ _ a n c 0 0 Tryd.underlying26
  obtain ⟨h0, ⟨rfl, hn⟩ | ⟨b, off, cap, cur, rfl, g1, g2, g3, g4, g5⟩⟩ := h
  · go_enter Tryd.func38, Tryd.ntmps38
    go_wp2
    go_ret
    exact ⟨_, rfl, HS.out, Gr.refl _, by simp [blks]⟩
  · have HC := hid (fun (W : World) (g : Gr w W) => ((HS.out).gr g).cell.2.1)
    have HL := hid h0
    have lb := lt_of_obj g1
    obtain ⟨k, hk⟩ : ∃ k, l.length = k := ⟨_, rfl⟩
    rw [hk] at hl HL HS ⊢
    clear g1 g2 g3 g4 g5 h0 hk
    generalize blkC l = cs at HC HL HS HO ⊢
    go_enter Tryd.func38, Tryd.ntmps38
    go_wp2_with (first | (at_builtin; refine wpList_append_sl _ rfl _ _ 26 rfl Tryd.underlying26 info_blk rfl (by decide) (.slice (some ⟨w.heap.size, 0, none⟩) 0 0) rfl (sl_new w _ rfl 43 7 0 [] rfl (by simp [maxLen])) ⟨b, off, none⟩ k cap rfl cs HL.out (fun j u hj => by rw [Addr.add_lit]; exact HC.out _ ((Gr.refl w).alloc _) j u hj) HO.out (by omega) ?_; intro v' w' hs' hq))
    obtain ⟨gq, hB⟩ := hq w ((Gr.refl w).alloc _) (by simp [blks])
    rw [Nat.zero_add, List.nil_append] at hs'
    obtain ⟨va', vc', rfl⟩ := hs'.shape
    have HS2 := hid hs'
    have HB := hid hB
    have HG := hid gq
    clear hs' hB gq hq
    go_wp2
    go_ret
    exact ⟨_, rfl, HS2.out, HG.out, HB.out⟩
set_option maxHeartbeats 400000 in
theorem clone_nophi (w : World) : Calls Tryd.prog 39 #[.slice none 0 0] w fun e w' => e = .returned (.slice none 0 0) ∧ w = w' := by
  have qT : ∀ (w : World) (a : Option Addr) (n c : Nat), (binOp .eql 41 (.slice a n c) (.slice none 0 0)).run Tryd.prog w = .ok (.bool a.isNone) w := fun w a n c => Lib.run_eql_slice_nil w _ _ a n c 0 0 Tryd.underlying41
  go_enter Tryd.func39, Tryd.ntmps39
  go_wp2
  go_ret
  exact ⟨rfl, rfl⟩
theorem blkC_app (a b : List BlkM) : blkC (a ++ b) = blkC a ++ blkC b := by unfold blkC; rw [List.flatMap_append]
/-- A cell of a block in the middle is set. -/
theorem sl_mid {w : World} {c b off m n : Nat} {cl rest : List BlkM} {B B' : BlkM} (hm : cl.length = m) (h : Sl w 43 7 (.slice (some ⟨b, off, none⟩) n c) n (blkC (cl ++ B :: rest))) (j : Nat) (hj : j < 7) (u : Value) (hB : B.cells.set j u = B'.cells) :
    Sl (w.setCell ⟨b, off + m * 7 + j, none⟩ u) 43 7 (.slice (some ⟨b, off, none⟩) n c) n (blkC (cl ++ B' :: rest)) := by
  have hl : (blkC cl).length = m * 7 := by unfold blkC; rw [flatMap_len (f := BlkM.cells) (sz := 7) (fun _ => rfl), hm]
  have hB7 : B.cells.length = 7 := rfl
  have e1 : ∀ X : BlkM, blkC (cl ++ X :: rest) = blkC cl ++ (X.cells ++ blkC rest) := fun X => by rw [blkC_app]; rfl
  have h2 := sl_setM h (m * 7 + j) (by rw [e1, List.length_append, List.length_append, hl, hB7]; omega) u
  rw [e1, List.set_append_right _ _ (by rw [hl]; omega), hl, show m * 7 + j - m * 7 = j by omega, List.set_append_left _ _ (by rw [hB7]; exact hj), hB, ← e1, ← Nat.add_assoc] at h2
  exact h2
/-- The instructions of the two lie apart. -/
def Apart (A B : BlkM) : Prop := ∀ x ∈ blks A.iv, ¬ x ∈ blks B.iv
/-- Blocks cloned so far. -/
structure CInv (w : World) (v : Value) (bs : List BlkM) (qb : Nat) (i : Nat) (cl : List BlkM) (wr : World) : Prop where
  g : Gr w wr
  n : cl.length = i
  a : cl.map BlkM.ab = (bs.take i).map BlkM.ab
  p : ∀ B ∈ cl, B.pv = .slice none 0 0 ∧ B.phis = []
  s : Sl wr 43 7 v bs.length (blkC (cl ++ bs.drop i))
  o : ∀ x ∈ blks v, w.heap.size ≤ x ∧ ¬ x = qb
  i : ∀ B ∈ cl, Sl wr 36 7 B.iv B.ins.length (insC B.ins)
  q : ∀ B ∈ cl, ∀ x ∈ blks B.iv, w.heap.size ≤ x ∧ ¬ x = qb ∧ ¬ x ∈ blks v
  c : wr.cell? ⟨qb, 0, none⟩ = some v
  d : cl.Pairwise Apart
theorem CInv.step {w : World} {b off c qb i n : Nat} {bs cl : List BlkM} {B : BlkM} {wr w2 : World} {va : Option Addr} {vc : Nat} (h : CInv w (.slice (some ⟨b, off, none⟩) n c) bs qb i cl wr) (hn : bs.length = n) (hx : bs[i]? = some B) (hp : B.pv = .slice none 0 0 ∧ B.phis = [])
    (hs : Sl w2 36 7 (.slice va B.ins.length vc) B.ins.length (insC B.ins)) (g2 : Gr (wr.setCell ⟨b, off + i * 7 + 1, none⟩ (.slice none 0 0)) w2) (hb : ∀ x ∈ blks (.slice va B.ins.length vc), (wr.setCell ⟨b, off + i * 7 + 1, none⟩ (.slice none 0 0)).heap.size ≤ x) :
    CInv w (.slice (some ⟨b, off, none⟩) n c) bs qb (i + 1) (cl ++ [{ B with iv := .slice va B.ins.length vc }]) (w2.setCell ⟨b, off + i * 7 + 2, none⟩ (.slice va B.ins.length vc)) := by
  obtain ⟨hi, hB⟩ := List.getElem?_eq_some_iff.1 hx
  have hwb := (h.o b (by simp [blks])).1
  have hqb := (h.o b (by simp [blks])).2
  have hsz : (wr.setCell ⟨b, off + i * 7 + 1, none⟩ (.slice none 0 0)).heap.size = wr.heap.size := by simp [World.setCell]
  rw [hsz] at hb
  have hd : bs.drop i = B :: bs.drop (i + 1) := by rw [List.drop_eq_getElem_cons hi, hB]
  have hbl := (h.s.lt b (by simp [blks]))
  have hs0 := h.s
  subst hn
  rw [hd] at hs0
  have hs1 : Sl (wr.setCell ⟨b, off + i * 7 + 1, none⟩ (.slice none 0 0)) 43 7 (.slice (some ⟨b, off, none⟩) bs.length c) bs.length (blkC (cl ++ B :: bs.drop (i + 1))) := sl_mid h.n hs0 1 (by omega) _ (by unfold BlkM.cells; rw [hp.1]; rfl)
  have hs2 := sl_mid (B' := { B with iv := .slice va B.ins.length vc }) h.n (hs1.gr g2) 2 (by omega) (.slice va B.ins.length vc) rfl
  have t1 : Tch [b] wr (wr.setCell ⟨b, off + i * 7 + 1, none⟩ (.slice none 0 0)) := (Tch.refl [b] wr).setCell (.inl (by simp)) _
  have t2 : Tch [b] wr (w2.setCell ⟨b, off + i * 7 + 2, none⟩ (.slice va B.ins.length vc)) := (t1.trans (g2.tch.mono (by simp))).setCell (.inl (by simp)) _
  have t3 : Tch [b] w2 (w2.setCell ⟨b, off + i * 7 + 2, none⟩ (.slice va B.ins.length vc)) := (Tch.refl [b] w2).setCell (.inl (by simp)) _
  have lq := cell_lt h.c
  simp only at lq
  refine ⟨((h.g.setCell hwb _).trans g2).setCell hwb _, by simp [h.n], ?_, fun X hX => ?_, ?_, h.o, fun X hX => ?_, fun X hX => ?_, tch_val t2 h.c (by simpa using fun e => hqb e.symm), ?_⟩
  · rw [List.map_append, h.a, List.take_succ_eq_append_getElem hi, List.map_append, hB]; rfl
  · rcases List.mem_append.1 hX with h1 | h1
    · exact h.p X h1
    · simp at h1; subst h1; exact hp
  · rw [List.append_assoc]; exact hs2
  · rcases List.mem_append.1 hX with h1 | h1
    · exact (h.i X h1).kept t2 (fun x hx hx2 => by simp at hx2; subst hx2; exact (h.q X h1 _ hx).2.2 (by simp [blks]))
    · simp at h1; subst h1
      exact hs.kept t3 (fun x hx hx2 => by simp at hx2; subst hx2; have := hb _ hx; omega)
  · rcases List.mem_append.1 hX with h1 | h1
    · exact h.q X h1
    · simp at h1; subst h1
      intro x hx
      have h2 := hb x hx
      have := h.g.size
      exact ⟨by omega, by omega, fun e => by simp [blks] at e; subst e; omega⟩
  · refine List.pairwise_append.2 ⟨h.d, List.pairwise_singleton _ _, fun A hA X hX x hx hx2 => ?_⟩
    simp at hX; subst hX
    have := (h.i A hA).lt x hx
    have := hb x hx2
    omega
set_option maxRecDepth 100000 in
set_option maxHeartbeats 2000000 in
/-- **Program.Clone**, of a program without phis. -/
theorem clone_any (v : Value) (bs : List BlkM) (h1 : 1 ≤ bs.length) (h2 : bs.length ≤ 1000) (w : World) (h : ProgOk w v bs) (hp : ∀ B ∈ bs, B.pv = .slice none 0 0 ∧ B.phis = []) (hi : ∀ B ∈ bs, B.ins.length ≤ 1000) :
    Calls Tryd.prog 18 #[.agg #[v]] w fun e w' => ∃ v' cl, e = .returned (.agg #[v']) ∧ Own w w' v' w'.heap.size cl ∧ cl.map BlkM.ab = bs.map BlkM.ab ∧ Gr w w' ∧ cl.Pairwise Apart := by
  have HOK := hid h
  have HP := hid hp
  have HI := hid hi
  obtain ⟨va, vc, hv⟩ := h.b.shape
  have HCB := hid (fun (W : World) (g : Gr w W) => clone_blks v bs h2 W (h.b.gr g) (fun B hB => (h.q B hB).gr g))
  rw [hv] at HCB ⊢
  clear h hp hi hv
  obtain ⟨k, hk⟩ : ∃ k, bs.length = k := ⟨_, rfl⟩
  rw [hk] at h1 h2 HCB ⊢
  have HKL := hid hk
  clear hk
  have HCI := hid (fun (B : BlkM) (hB : B ∈ bs) (W : World) (g : Gr w W) => clone_ins B.iv B.ins (HI.out B hB) W (((HOK.out.q B hB).i).gr g))
  go_enter Tryd.func18, Tryd.ntmps18
  go_wp2_with (fail)
  have GW := hid (((Gr.refl w).alloc (.cells #[.slice va k vc] 28)).alloc (.cells #[.slice none 0 0] 28))
  have o1 := heap_alloc_new (w.alloc (.cells #[.slice va k vc] 28)) (.cells #[.slice none 0 0] 28)
  have hsz : ((w.alloc (.cells #[.slice va k vc] 28)).alloc (.cells #[.slice none 0 0] 28)).heap.size = w.heap.size + 2 := by simp
  simp only [World.size_alloc] at o1
  generalize (w.alloc (.cells #[.slice va k vc] 28)).alloc (.cells #[.slice none 0 0] 28) = W1 at GW o1 hsz ⊢
  have O1 := hid o1
  clear o1
  refine (HCB.out _ GW.out).mono ?_
  rintro e2 w2 ⟨v', rfl, s2, g2, f2⟩
  dsimp only
  obtain ⟨b, off, c, hv'⟩ := s2.ptr (by omega)
  subst hv'
  have hb2 := f2 b (by simp [blks])
  have hbl := s2.lt b (by simp [blks])
  have ci0 : CInv W1 (.slice (some ⟨b, off, none⟩) k c) bs w2.heap.size 0 [] (w2.alloc (.cells #[.slice (some ⟨b, off, none⟩) k c] 28)) :=
    ⟨g2.alloc _, rfl, rfl, by simp, by have := s2.gr ((Gr.refl w2).alloc (.cells #[.slice (some ⟨b, off, none⟩) k c] 28)); rw [HKL.out]; exact this, fun x hx => by simp [blks] at hx; subst hx; exact ⟨hb2, by omega⟩, by simp, by simp, (Gr.refl _).boxed 0 rfl, List.Pairwise.nil⟩
  have CI0 := hid ci0
  have hqW : W1.heap.size ≤ w2.heap.size := g2.size
  clear s2 f2 HCB g2 ci0
  go_wp2_with (fail)
  generalize w2.alloc (.cells #[.slice (some ⟨b, off, none⟩) k c] 28) = W3 at CI0 ⊢
  generalize w2.heap.size = qb at CI0 hqW hbl ⊢
  go_loopw [14] (fun vi wr => ∃ i : Nat, vi = .int .i64 i ∧ i ≤ k ∧ Hid (∃ cl, CInv W1 (.slice (some ⟨b, off, none⟩) k c) bs qb i cl wr)) (fun vi _ => k - (intOf vi).toNat)
  case atStart => exact ⟨0, rfl, Nat.zero_le _, ⟨[], CI0.out⟩⟩
  case round =>
    obtain ⟨i, rfl, hi, ⟨cl, ci⟩⟩ := hrel
    have CI := hid ci
    have cq := ci.c
    have lq := cell_lt cq
    simp only at lq
    by_cases hlt : i < k
    · obtain ⟨B, hx⟩ : ∃ B, bs[i]? = some B := ⟨bs[i]'(by rw [HKL.out]; exact hlt), by simp⟩
      have hBm := List.mem_of_getElem? hx
      have hat : (cl ++ bs.drop i)[i]? = some B := by
        rw [List.getElem?_append_right (by rw [ci.n]; omega), ci.n, Nat.sub_self, List.getElem?_drop]; simpa using hx
      have hlen : (cl ++ bs.drop i).length = bs.length := by rw [List.length_append, ci.n, List.length_drop, HKL.out]; omega
      have hsl := ci.s
      rw [← hlen] at hsl
      obtain ⟨p0, p1, p2, p3, p4, p5, p6⟩ := blk_at hsl i hat
      have fzb := hsl.cell.2.2.1
      have lb := hsl.cell.2.2.2
      obtain ⟨ia, ic, hiv⟩ := ((HOK.out.q B hBm).i).shape
      have hpv := HP.out B hBm
      rw [hpv.1] at p1
      rw [hiv] at p2
      have HX := hid hx
      have HLT := hid hlt
      have HPV := hid hpv
      have hwb := (ci.o b (by simp [blks])).1
      have GX : Hid (Gr w (wr.setCell ⟨b, off + i * 7 + 1, none⟩ (.slice none 0 0))) := GW.out.trans (ci.g.setCell hwb _)
      have HCX := hid (HCI.out B hBm _ GX.out)
      rw [hiv] at HCX
      clear hx hBm hat hlen hsl hiv hpv ci hwb p0 p3 p4 p5 p6
      go_wp2_with (fail)
      refine (clone_nophi _).mono ?_
      rintro e3 w3 ⟨rfl, rfl⟩
      dsimp only
      go_wp2_with (fail)
      refine HCX.out.mono ?_
      rintro e4 w4 ⟨v4, rfl, s4, g4, f4⟩
      dsimp only
      obtain ⟨va4, vc4, rfl⟩ := s4.shape
      have hne : ¬ b = qb := (CI.out.o b (by simp [blks])).2
      have c2 := g4.val (show (wr.setCell ⟨b, off + i * 7 + 1, none⟩ (.slice none 0 0)).cell? ⟨b, off + i * 7 + 2, none⟩ = some (.slice ia B.ins.length ic) by rw [World.cell?_setCell_other _ _ _ _ (by simp)]; exact p2)
      have c1 := g4.val (show (wr.setCell ⟨b, off + i * 7 + 1, none⟩ (.slice none 0 0)).cell? ⟨b, off + i * 7 + 1, none⟩ = some (.slice none 0 0) from World.cell?_setCell_same _ _ _ p1)
      have fz4 : ∀ j, w4.frozen? ⟨b, j, none⟩ = false := fun j => (g4.frozen (p := ⟨b, j, none⟩) (by simp [World.setCell]; exact lb)).trans (by rw [World.frozen?_setCell]; exact fzb j)
      have lb4 : b < w4.heap.size := Nat.lt_of_lt_of_le (by simp [World.setCell]; exact lb) g4.size
      have CS : Hid (CInv W1 (.slice (some ⟨b, off, none⟩) k c) bs qb (i + 1) (cl ++ [{ B with iv := .slice va4 B.ins.length vc4 }]) (w4.setCell ⟨b, off + i * 7 + 2, none⟩ (.slice va4 B.ins.length vc4))) := CI.out.step HKL.out HX.out HPV.out s4 g4 f4
      clear s4 g4 f4 p1 p2 fzb CI cq lq HCX
      go_wp2_with (fail)
      refine wp_loop_rounds 1 ?_
      rw [rounds_succ]
      go_wp2_with (fail)
      go_roundw
      case rel => exact ⟨i + 1, by have := HLT.out; go_num, by have := HLT.out; omega, ⟨_, CS.out⟩⟩
      case measure => have := HLT.out; simp [intOf]; omega
    · obtain rfl : i = k := by omega
      have o1' := ci.g.obj O1.out
      have c1 := cell_of_row wr (w.heap.size + 1) 0 _ _ _ o1'
      simp only [List.getElem?_toArray, List.getElem?_cons_zero] at c1
      have fz : ∀ j, wr.frozen? ⟨w.heap.size + 1, j, none⟩ = false := fun j => frozen_of_row _ _ _ _ _ o1'
      have hl1 := lt_of_obj o1'
      have HSZ := hid hsz
      clear ci o1' hsz
      go_wp2
      (try simp only [Exit.inBlock, Exit.then])
      refine bodyPost_ret (v := .agg #[.slice (some ⟨b, off, none⟩) i c]) (by simp [results, Tryd.results18, go_sem, c1]) rfl ?_
      have ci := CI.out
      have hs0 := HSZ.out
      have hcl : (cl ++ bs.drop i) = cl := by rw [List.drop_eq_nil_of_le (by rw [HKL.out]; omega), List.append_nil]
      have hsl := ci.s
      rw [hcl] at hsl
      have hn : bs.length = cl.length := by rw [ci.n, HKL.out]
      rw [hn] at hsl
      have TT : Tch [w.heap.size + 1] wr (wr.setCell ⟨w.heap.size + 1, 0, none⟩ (.slice (some ⟨b, off, none⟩) i c)) := (Tch.refl _ wr).setCell (.inl (by simp)) _
      refine ⟨_, cl, rfl, ⟨hsl.kept TT (fun x hx hx2 => by simp at hx2; subst hx2; have := (ci.o _ hx).1; omega), ci.p, fun X hX => (ci.i X hX).kept TT (fun x hx hx2 => by simp at hx2; subst hx2; have := (ci.q X hX _ hx).1; omega), fun x hx => ⟨by have := (ci.o x hx).1; omega, by have := hsl.lt x hx; simp [World.setCell]; omega⟩, fun X hX x hx => ⟨by have := (ci.q X hX x hx).1; omega, by have := (ci.i X hX).lt x hx; simp [World.setCell]; omega, (ci.q X hX x hx).2.2⟩⟩, ?_, (GW.out.trans ci.g).setCell (by simp) _, ci.d⟩
      rw [ci.a, ← HKL.out, List.take_length]
end Go.Proofs.YtkcblhaldahooaaDoor

