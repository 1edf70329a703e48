/- For LexJoins: what is told of two texts with a newline between. -/
import Derived.Test.YtnflohejjgmlnaaDoorJtx
import Derived.Laws.StructEq
set_option linter.unusedSimpArgs false
set_option linter.unusedVariables false
namespace Go.Proofs.YtnflohejjgmlnaaDoor
open Go.RowKit Go.Sort

theorem tcells_get {l : List Ev} {i : Nat} {x : Ev} (h : l[i]? = some x) (j : Nat) (hj : j < 4) : (tcells l)[i * 4 + j]? = x.cells[j]? := fm_get (f := Ev.cells) (sz := 4) (fun _ => rfl) l i j x h hj
/-- The cells of one token of a row. -/
theorem row_tok {W : World} {base n m c g : Nat} {l : List Ev} (h : W.ownsRow base 29 4 (.slice (some ⟨g, 0, none⟩) m c) n (tcells l)) {i : Nat} {x : Ev} (hi : l[i]? = some x) :
    W.cell? ⟨g, i * 4, none⟩ = some (.int .u8 x.k) ∧ W.cell? ⟨g, i * 4 + 1, none⟩ = some (.int .i64 x.p) ∧ W.cell? ⟨g, i * 4 + 2, none⟩ = some (.string (bytesOf x.t)) ∧ W.cell? ⟨g, i * 4 + 3, none⟩ = some (.int .i64 x.n) :=
  ⟨row_cell h (tcells_get hi 0 (by omega)), row_cell h (tcells_get hi 1 (by omega)), row_cell h (tcells_get hi 2 (by omega)), row_cell h (tcells_get hi 3 (by omega))⟩
theorem readL_le (b : List UInt8) (h : b ≠ []) : (readL b).2.2.2 ≤ b.length := by
  have hp : 0 < (bytesOf b).size := by rw [bytes_size]; exact List.length_pos_iff.2 h
  have h1 := (size_ends (bytesOf b) 0 hp).1
  have h2 := readAt_list hp
  rw [List.drop_zero, bytes_list] at h2
  rw [show sizeAt (bytesOf b) 0 = (readAt (bytesOf b) 0).2.2.2 from rfl, h2, bytes_size, Nat.zero_add] at h1
  exact h1
/-- Where what is told lies. -/
theorem evL_range : ∀ (f p : Nat) (b : List UInt8), ∀ x ∈ evL f p b, p ≤ x.p ∧ x.p ≤ p + b.length
  | 0, p, b, x, h => by simp [evL] at h
  | f + 1, p, b, x, h => by
    unfold evL at h
    by_cases hb : b = []
    · rw [if_pos hb] at h; simp at h; subst h; exact ⟨Nat.le_refl _, Nat.le_add_right _ _⟩
    · rw [if_neg hb] at h
      have hl := readL_le b hb
      have ih := fun (h : x ∈ evL f (p + (readL b).2.2.2) (b.drop (readL b).2.2.2)) => evL_range f _ _ x h
      rw [List.length_drop] at ih
      by_cases hz : (readL b).2.2.2 = 0
      · rw [if_pos hz] at h; simp at h; subst h; exact ⟨Nat.le_refl _, Nat.le_add_right _ _⟩
      · rw [if_neg hz] at h
        split at h
        · have := ih h; omega
        · rcases List.mem_cons.1 h with rfl | h
          · exact ⟨Nat.le_refl _, Nat.le_add_right _ _⟩
          · have := ih h; omega
theorem evL_len : ∀ (f p : Nat) (b : List UInt8), (evL f p b).length ≤ b.length + 1
  | 0, p, b => by simp [evL]
  | f + 1, p, b => by
    unfold evL
    by_cases hb : b = []
    · rw [if_pos hb]; simp
    · rw [if_neg hb]
      have hl := readL_le b hb
      have ih := evL_len f (p + (readL b).2.2.2) (b.drop (readL b).2.2.2)
      rw [List.length_drop] at ih
      by_cases hz : (readL b).2.2.2 = 0
      · rw [if_pos hz]; simp
      · rw [if_neg hz]
        split
        · omega
        · rw [List.length_cons]; omega
theorem evT_len (p : Nat) (b : List UInt8) : (evT p b).length ≤ b.length + 1 := evL_len _ p b
theorem evT_le {p : Nat} {b : List UInt8} {x : Ev} (h : x ∈ evT p b) : p ≤ x.p ∧ x.p ≤ p + b.length := evL_range _ p b x h
/-- != of a token and itself. -/
theorem neq_tok (k p n : Int) (t : ByteArray) (w : World) : (binOp .neq 29 (.agg #[.int .u8 k, .int .i64 p, .string t, .int .i64 n]) (.agg #[.int .u8 k, .int .i64 p, .string t, .int .i64 n])).run Tryd.prog w = .ok (.bool false) w := by
  have h : (Op.equalIn 10000 29 (.agg #[.int .u8 k, .int .i64 p, .string t, .int .i64 n]) (.agg #[.int .u8 k, .int .i64 p, .string t, .int .i64 n])).run Tryd.prog w = .ok true w := by
    rw [run_equalIn_struct (P := Tryd.prog) w 9999 29 _ _ (by kernel_rfl) (by kernel_rfl)]
    simp [go_sem]
  rw [run_neq_struct, h]; rfl
theorem joins_toks {x y : List UInt8} {wx wy : List Ev} (hx : Toks x wx) (hy : Toks y wy) : evT 0 (x ++ ([10] ++ y)) = wx ++ (⟨7, x.length, [], 0, 0⟩ :: (evT 0 y).map (Ev.sh (x.length + 1))) := by
  rw [hx.1, sh_zero, toks_line.1, hy.all, hy.all, List.map_append, sh_sh]
  simp [Ev.sh]
  omega
theorem row_some {W : World} {base : Nat} {e : TypeId} {sz n : Nat} {v : Value} {xs : List Value} (h : W.ownsRow base e sz v n xs) (hn : 0 < n) : ∃ g c, v = .slice (some ⟨g, 0, none⟩) n c := by
  obtain ⟨h0, ⟨_, h1⟩ | ⟨b, cap, cur, h1, _⟩⟩ := h
  · omega
  · exact ⟨_, _, h1⟩
theorem joins_len {x y : List UInt8} {wx wy : List Ev} (hx : Toks x wx) (hy : Toks y wy) : (evT 0 x).length = wx.length + 1 ∧ 0 < (evT 0 y).length ∧ (evT 0 (x ++ ([10] ++ y))).length = (evT 0 x).length + (evT 0 y).length := by
  refine ⟨by rw [hx.all]; simp, by rw [hy.all]; simp, ?_⟩
  rw [joins_toks hx hy, hx.all]
  simp
  omega
theorem joins_at1 {x y : List UInt8} {wx wy : List Ev} (hx : Toks x wx) (hy : Toks y wy) (k : Nat) (hk : k < wx.length) : ∃ e, (evT 0 x)[k]? = some e ∧ (evT 0 (x ++ ([10] ++ y)))[k]? = some e := by
  refine ⟨wx[k], ?_, ?_⟩
  · rw [hx.all, sh_zero, List.getElem?_append_left hk]; simp
  · rw [joins_toks hx hy, List.getElem?_append_left hk]; simp
theorem joins_at2 {x y : List UInt8} {wx wy : List Ev} (hx : Toks x wx) (hy : Toks y wy) : (evT 0 (x ++ ([10] ++ y)))[wx.length]? = some ⟨7, x.length, [], 0, 0⟩ := by
  rw [joins_toks hx hy, List.getElem?_append_right (Nat.le_refl _)]; simp
theorem joins_at3 {x y : List UInt8} {wx wy : List Ev} (hx : Toks x wx) (hy : Toks y wy) (j : Nat) (hj : j < (evT 0 y).length) : ∃ e, (evT 0 y)[j]? = some e ∧ (evT 0 (x ++ ([10] ++ y)))[wx.length + 1 + j]? = some (e.sh (x.length + 1)) ∧ e.p ≤ y.length := by
  refine ⟨(evT 0 y)[j], by simp, ?_, ?_⟩
  · rw [joins_toks hx hy, List.getElem?_append_right (by omega), show wx.length + 1 + j - wx.length = j + 1 by omega, List.getElem?_cons_succ, List.getElem?_map, List.getElem?_eq_getElem hj]; rfl
  · have := (evT_le (List.getElem_mem hj)).2; omega
theorem joins_ok {x y : List UInt8} {wx wy : List Ev} (hx : Toks x wx) (hy : Toks y wy) : ∀ e ∈ evT 0 (x ++ ([10] ++ y)), e.e = 0 := by
  have := (hx.app (toks_line.app hy)).ok
  exact this
end Go.Proofs.YtnflohejjgmlnaaDoor
