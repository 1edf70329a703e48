
/- Slices whose items take sz cells each: what they show in a block, told by the cells one behind the other; what append makes of them. -/
import Derived.Test.YtpmdeilnkholgaaGr
import Derived.Lib.AppendZeros
set_option linter.unusedSimpArgs false
set_option linter.unusedVariables false
namespace Go.Proofs.Ytpmdeilnkholgaa
open Go.RowKit Go.Sort

/-- The slice v shows n items of sz cells each: cs, one cell behind the other, in a block of items of type e; its spare room lies there, too. -/
def Sl (w : World) (e : TypeId) (sz : Nat) (v : Value) (n : Nat) (cs : List Value) : Prop :=
  cs.length = n * sz ∧ ((v = .slice none 0 0 ∧ n = 0) ∨
  ∃ b off cap cur, v = .slice (some ⟨b, off, none⟩) n cap ∧ w.heap[b]? = some (.cells cur e (0, 0)) ∧ n ≤ cap ∧ cap ≤ maxLen ∧ off + cap * sz ≤ cur.size ∧ ∀ j, j < cs.length → cur[off + j]? = cs[j]?)

theorem Sl.nil (w : World) (e : TypeId) (sz : Nat) : Sl w e sz (.slice none 0 0) 0 [] := ⟨by simp, .inl ⟨rfl, rfl⟩⟩
theorem Sl.gr {w w' : World} {e : TypeId} {sz n : Nat} {v : Value} {cs : List Value} (h : Sl w e sz v n cs) (g : Gr w w') : Sl w' e sz v n cs := by
  obtain ⟨h0, h | ⟨b, off, cap, cur, rfl, h1, h2⟩⟩ := h
  · exact ⟨h0, .inl h⟩
  · exact ⟨h0, .inr ⟨b, off, cap, cur, rfl, g.obj h1, h2⟩⟩
theorem Sl.shape {w : World} {e : TypeId} {sz n : Nat} {v : Value} {cs : List Value} (h : Sl w e sz v n cs) : ∃ a c, v = .slice a n c := by
  obtain ⟨h0, ⟨rfl, rfl⟩ | ⟨b, off, cap, cur, rfl, _⟩⟩ := h
  · exact ⟨none, 0, rfl⟩
  · exact ⟨_, _, rfl⟩
theorem Sl.le {w : World} {e : TypeId} {sz n : Nat} {v : Value} {cs : List Value} (h : Sl w e sz v n cs) : n ≤ maxLen := by
  obtain ⟨h0, ⟨rfl, rfl⟩ | ⟨b, off, cap, cur, rfl, h1, h2, h3, _⟩⟩ := h
  · exact Nat.zero_le _
  · exact Nat.le_trans h2 h3
theorem Sl.ptr {w : World} {e : TypeId} {sz n : Nat} {v : Value} {cs : List Value} (h : Sl w e sz v n cs) (hn : 0 < n) : ∃ b o c, v = .slice (some ⟨b, o, none⟩) n c := by
  obtain ⟨h0, ⟨rfl, rfl⟩ | ⟨b, off, cap, cur, rfl, _⟩⟩ := h
  · omega
  · exact ⟨_, _, _, rfl⟩
theorem Sl.cell {w : World} {e : TypeId} {sz n m c b off : Nat} {cs : List Value} (h : Sl w e sz (.slice (some ⟨b, off, none⟩) m c) n cs) :
    m = n ∧ (∀ j u, cs[j]? = some u → w.cell? ⟨b, off + j, none⟩ = some u) ∧ (∀ j, w.frozen? ⟨b, j, none⟩ = false) ∧ b < w.heap.size := by
  obtain ⟨h0, ⟨h1, _⟩ | ⟨b', off', cap', cur, e1, h1, h2, h3, h4, h5⟩⟩ := h
  · cases h1
  · cases e1
    refine ⟨rfl, fun j u hj => ?_, fun j => frozen_of_row w b j cur e h1, lt_of_obj h1⟩
    have hlt : j < cs.length := (List.getElem?_eq_some_iff.1 hj).1
    rw [cell_of_row w b (off + j) cur e (0, 0) h1, h5 j hlt, hj]
theorem Sl.lt {w : World} {e : TypeId} {sz n : Nat} {v : Value} {cs : List Value} (h : Sl w e sz v n cs) : ∀ b ∈ blks v, b < w.heap.size := by
  obtain ⟨h0, ⟨rfl, _⟩ | ⟨b, off, cap, cur, rfl, h1, h2⟩⟩ := h
  · simp [blks]
  · intro k hk; simp [blks] at hk; subst hk; exact lt_of_obj h1
/-- A new block of n items. -/
theorem sl_new (w : World) (b : Nat) (hb : b = w.heap.size) (e : TypeId) (sz n : Nat) (cs : List Value) (hl : cs.length = n * sz) (hn : n ≤ maxLen) : Sl (w.alloc (.cells cs.toArray e)) e sz (.slice (some ⟨b, 0, none⟩) n n) n cs := by
  subst hb
  exact ⟨hl, .inr ⟨w.heap.size, 0, n, cs.toArray, rfl, heap_alloc_new w _, Nat.le_refl _, hn, by simp; omega, fun j hj => by simp⟩⟩

section
variable {P : Program}
/-- append to a slice of the call's own. -/
theorem sl_append (w : World) {t e : TypeId} {z : Value} {sz bytes : Nat} (ht : P.underlying t = some (.slice e)) (hinfo : (P.info? e).map (fun i => (i.zero, i.size, i.bytes)) = some (some z, sz, bytes)) (hz : z.cells.size = sz) (hb : 0 < bytes)
    {v : Value} {n : Nat} {cs : List Value} (h : Sl w e sz v n cs) (a : Addr) (m c : Nat) (news : List Value) (hl : news.length = m * sz) (hnews : ∀ j u, news[j]? = some u → w.cell? (a.add j) = some u) (h1 : ∀ u ∈ news, u.oneCell' = true)
    (hbig : (n + m) * bytes ≤ 140737488355328) (ty : TypeId) :
    ∃ v' w', (Builtin.append_ #[t, t] ty #[v, .slice (some a) m c]).run P w = .ok v' w' ∧ Sl w' e sz v' (n + m) (cs ++ news) ∧ (∀ W, Gr W w → (∀ b ∈ blks v, W.heap.size ≤ b) → Gr W w' ∧ ∀ b ∈ blks v', W.heap.size ≤ b) := by
  obtain ⟨i, hi, hz0, hzs, hzb⟩ := info_parts hinfo
  have hsz : n + m ≤ 140737488355328 := Nat.le_trans (Nat.le_mul_of_pos_right _ hb) hbig
  have hsrc : Src P i.size t (.slice (some a) m c) m news w := Src.ofSlice w ht a m c news (by rw [hzs, hl]) hnews h1
  have hml : n + m ≤ maxLen := by unfold maxLen; omega
  obtain ⟨h0, h⟩ := h
  have hlen : (cs ++ news).length = (n + m) * sz := by rw [List.length_append, hl, h0, Nat.add_mul]
  have hnew : ∀ old, Sl (w.drew.alloc (.cells ((cs ++ news).toArray ++ Builtin.zeroCells z.cells (grownCap w (n + m) old e - (n + m))) e)) e sz (.slice (some ⟨w.heap.size, 0, none⟩) (n + m) (grownCap w (n + m) old e)) (n + m) (cs ++ news) := fun old => by
    have hge := grownCap_ge w (n + m) old e
    refine ⟨hlen, .inr ⟨w.heap.size, 0, _, _, rfl, heap_alloc_new w.drew _, hge, grownCap_le_maxLen w _ old e hml, ?_, fun j hj => ?_⟩⟩
    · rw [Array.size_append, size_zeroCells, hz, List.size_toArray, hlen, Nat.zero_add, ← Nat.add_mul]
      exact Nat.mul_le_mul_right _ (by omega)
    · rw [Nat.zero_add, Array.getElem?_append_left (by simpa using hj)]; simp
  rcases h with ⟨rfl, rfl⟩ | ⟨b, off, cap, cur, rfl, g1, g2, g3, g4, g5⟩
  · have hcs : cs = [] := List.eq_nil_of_length_eq_zero (by simpa using h0)
    subst hcs
    by_cases hm : m = 0
    · subst hm
      have hn : news = [] := List.eq_nil_of_length_eq_zero (by simpa using hl)
      subst hn
      refine ⟨.slice none 0 0, w, ?_, Sl.nil w e sz, fun W g _ => ⟨g, by simp [blks]⟩⟩
      simp [Builtin.append_, run_underlying ht, sizeOf, typeInfo, hi, Builtin.lenOf, Builtin.firstCells, loadCells, loadCellsFrom]
    · have hr := run_append_grow_src (P := P) w t t ty e i z ht hi hz0 none 0 0 [] (by simpa using run_firstCells_none (P := P) w.drew i.size 0 0 0) _ m news hsrc (by omega) (by simp at hsz ⊢; omega) (by rw [hzb]; exact growslice_fits (by omega) (by simpa using hbig))
      refine ⟨_, _, hr, hnew 0, fun W g _ => ⟨(g.drew).alloc _, fun b hb => ?_⟩⟩
      simp [blks] at hb; have := g.size; omega
  · by_cases hroom : n + m ≤ cap
    · have hcap : n * sz + m * sz ≤ cap * sz := by rw [← Nat.add_mul]; exact Nat.mul_le_mul_right _ hroom
      have hr := run_append_room_src (P := P) w t t ty e i ht hi b off n cap _ m news hsrc hroom
        (fun j hj => by rw [hzs, cell_of_row w b _ cur e (0, 0) g1, Array.getElem?_eq_getElem (by omega)]; rfl) (fun j hj => frozen_of_row w b _ cur e g1)
      rw [hzs] at hr
      obtain ⟨cur', k1, k2, k3⟩ := setCells_heap b e news (off + n * sz) w cur g1 (by omega)
      refine ⟨_, _, hr, ⟨hlen, .inr ⟨b, off, cap, cur', rfl, k1, by omega, g3, by omega, fun j hj => ?_⟩⟩, fun W g hB => ⟨Gr.setCells (hB b (by simp [blks])) _ _ _ g, fun x hx => hB x (by simpa [blks] using hx)⟩⟩
      rw [k3]
      rw [List.length_append] at hj
      by_cases hj2 : j < cs.length
      · rw [if_neg (by omega), g5 j hj2, List.getElem?_append_left hj2]
      · rw [if_pos (by omega), List.getElem?_append_right (by omega)]
        congr 1; omega
    · have hold : (Builtin.firstCells i.size n (.slice (some ⟨b, off, none⟩) n cap)).run P w.drew = .ok cs.toArray w.drew := by
        rw [hzs]
        exact run_firstCells_some w.drew sz n ⟨b, off, none⟩ n cap cs h0 (fun j u hj => by
          have hlt : j < cs.length := (List.getElem?_eq_some_iff.1 hj).1
          rw [Addr.add_lit]
          show w.cell? _ = _
          rw [cell_of_row w b (off + j) cur e (0, 0) g1, g5 j hlt, hj])
      have hr := run_append_grow_src (P := P) w t t ty e i z ht hi hz0 (some ⟨b, off, none⟩) n cap cs hold _ m news hsrc (by omega) (by omega) (by rw [hzb]; exact growslice_fits (by omega) hbig)
      refine ⟨_, _, hr, hnew cap, fun W g _ => ⟨(g.drew).alloc _, fun b hb => ?_⟩⟩
      simp [blks] at hb; have := g.size; omega
/-- The same, at the operation. -/
theorem wpList_append_sl (w : World) {ops : Array Oper} {rest : List Oper} {o : Oper} {a : Act} {Q : Exit → Act → World → Prop} (hgd : o.guard = none) (s x : Operand) (t : TypeId)
    (ho : o.op = .call { callee := .builtin .append, args := #[s, x], argTypes := #[t, t] }) {e : TypeId} {z : Value} {sz bytes : Nat} (ht : P.underlying t = some (.slice e)) (hinfo : (P.info? e).map (fun i => (i.zero, i.size, i.bytes)) = some (some z, sz, bytes)) (hz : z.cells.size = sz) (hb : 0 < bytes)
    (v : Value) {n : Nat} {cs : List Value} (hs : a.eval s = v) (h : Sl w e sz v n cs) (ad : Addr) (m c : Nat) (hx : a.eval x = .slice (some ad) m c) (news : List Value) (hl : news.length = m * sz) (hnews : ∀ j u, news[j]? = some u → w.cell? (ad.add j) = some u) (h1 : ∀ u ∈ news, u.oneCell' = true)
    (hbig : (n + m) * bytes ≤ 140737488355328)
    (hK : ∀ v' w', Sl w' e sz v' (n + m) (cs ++ news) → (∀ W, Gr W w → (∀ b ∈ blks v, W.heap.size ≤ b) → Gr W w' ∧ ∀ b ∈ blks v', W.heap.size ≤ b) → wpList P ops Q rest (a.put o.dst v') w') : wpList P ops Q (o :: rest) a w := by
  obtain ⟨v', w', p1, p2, p3⟩ := sl_append w ht hinfo hz hb h ad m c news hl hnews h1 hbig o.type
  exact Lib.wpList_append_run _ hgd _ _ _ _ ho _ _ hs hx _ _ p1 (hK v' w' p2 p3)
end
/-- The cells of a block that was laid just now. -/
theorem cells_new (w : World) (b : Nat) (hb : b = w.heap.size) (cs : List Value) (e : TypeId) : ∀ j u, cs[j]? = some u → (w.alloc (.cells cs.toArray e)).cell? ((⟨b, 0, none⟩ : Addr).add j) = some u := by
  subst hb
  intro j u hj
  rw [Addr.add_lit, cell_of_row _ w.heap.size (0 + j) cs.toArray e (0, 0) (heap_alloc_new w _)]
  simpa using hj
theorem info_int : (Try.prog.info? 3).map (fun i => (i.zero, i.size, i.bytes)) = some (some (.int .i64 0), 1, 8) := by kernel_rfl
end Go.Proofs.Ytpmdeilnkholgaa
