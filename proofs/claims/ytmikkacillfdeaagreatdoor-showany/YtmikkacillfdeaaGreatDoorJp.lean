/- Joined: JnP, Pan, Pln, Pap. -/
import Derived.Test.YtmikkacillfdeaaGreatDoorJtx
import Derived.Laws.StructEq
import Derived.Test.YtmikkacillfdeaaGreatDoorJm


/- For LexJoins: what is told of two texts with a newline between. -/
set_option linter.unusedSimpArgs false
set_option linter.unusedVariables false
namespace Go.Proofs.YtmikkacillfdeaaGreatDoor
open Go.RowKit Go.Sort

theorem tcells_get {l : List Ev} {i : Nat} {x : Ev} (h : l[i]? = some x) (j : Nat) (hj : j < 4) : (tcells l)[i * 4 + j]? = x.cells[j]? := fm_get (f := Ev.cells) (sz := 4) (fun _ => rfl) l i j x h hj
/-- The cells of one token of a row. -/
theorem row_tok {W : World} {base n m c g : Nat} {l : List Ev} (h : W.ownsRow base 101 4 (.slice (some ⟨g, 0, none⟩) m c) n (tcells l)) {i : Nat} {x : Ev} (hi : l[i]? = some x) :
    W.cell? ⟨g, i * 4, none⟩ = some (.int .u8 x.k) ∧ W.cell? ⟨g, i * 4 + 1, none⟩ = some (.int .i64 x.p) ∧ W.cell? ⟨g, i * 4 + 2, none⟩ = some (.string (bytesOf x.t)) ∧ W.cell? ⟨g, i * 4 + 3, none⟩ = some (.int .i64 x.n) :=
  ⟨row_cell h (tcells_get hi 0 (by omega)), row_cell h (tcells_get hi 1 (by omega)), row_cell h (tcells_get hi 2 (by omega)), row_cell h (tcells_get hi 3 (by omega))⟩
theorem readL_le (b : List UInt8) (h : b ≠ []) : (readL b).2.2.2 ≤ b.length := by
  have hp : 0 < (bytesOf b).size := by rw [bytes_size]; exact List.length_pos_iff.2 h
  have h1 := (size_ends (bytesOf b) 0 hp).1
  have h2 := readAt_list hp
  rw [List.drop_zero, bytes_list] at h2
  rw [show sizeAt (bytesOf b) 0 = (readAt (bytesOf b) 0).2.2.2 from rfl, h2, bytes_size, Nat.zero_add] at h1
  exact h1
/-- Where what is told lies. -/
theorem evL_range : ∀ (f p : Nat) (b : List UInt8), ∀ x ∈ evL f p b, p ≤ x.p ∧ x.p ≤ p + b.length
  | 0, p, b, x, h => by simp [evL] at h
  | f + 1, p, b, x, h => by
    unfold evL at h
    by_cases hb : b = []
    · rw [if_pos hb] at h; simp at h; subst h; exact ⟨Nat.le_refl _, Nat.le_add_right _ _⟩
    · rw [if_neg hb] at h
      have hl := readL_le b hb
      have ih := fun (h : x ∈ evL f (p + (readL b).2.2.2) (b.drop (readL b).2.2.2)) => evL_range f _ _ x h
      rw [List.length_drop] at ih
      by_cases hz : (readL b).2.2.2 = 0
      · rw [if_pos hz] at h; simp at h; subst h; exact ⟨Nat.le_refl _, Nat.le_add_right _ _⟩
      · rw [if_neg hz] at h
        split at h
        · have := ih h; omega
        · rcases List.mem_cons.1 h with rfl | h
          · exact ⟨Nat.le_refl _, Nat.le_add_right _ _⟩
          · have := ih h; omega
theorem evL_len : ∀ (f p : Nat) (b : List UInt8), (evL f p b).length ≤ b.length + 1
  | 0, p, b => by simp [evL]
  | f + 1, p, b => by
    unfold evL
    by_cases hb : b = []
    · rw [if_pos hb]; simp
    · rw [if_neg hb]
      have hl := readL_le b hb
      have ih := evL_len f (p + (readL b).2.2.2) (b.drop (readL b).2.2.2)
      rw [List.length_drop] at ih
      by_cases hz : (readL b).2.2.2 = 0
      · rw [if_pos hz]; simp
      · rw [if_neg hz]
        split
        · omega
        · rw [List.length_cons]; omega
theorem evT_len (p : Nat) (b : List UInt8) : (evT p b).length ≤ b.length + 1 := evL_len _ p b
theorem evT_le {p : Nat} {b : List UInt8} {x : Ev} (h : x ∈ evT p b) : p ≤ x.p ∧ x.p ≤ p + b.length := evL_range _ p b x h
/-- != of a token and itself. -/
theorem neq_tok (k p n : Int) (t : ByteArray) (w : World) : (binOp .neq 101 (.agg #[.int .u8 k, .int .i64 p, .string t, .int .i64 n]) (.agg #[.int .u8 k, .int .i64 p, .string t, .int .i64 n])).run Tryz.prog w = .ok (.bool false) w := by
  have h : (Op.equalIn 10000 101 (.agg #[.int .u8 k, .int .i64 p, .string t, .int .i64 n]) (.agg #[.int .u8 k, .int .i64 p, .string t, .int .i64 n])).run Tryz.prog w = .ok true w := by
    rw [run_equalIn_struct (P := Tryz.prog) w 9999 101 _ _ (by kernel_rfl) (by kernel_rfl)]
    simp [go_sem]
  rw [run_neq_struct, h]; rfl
theorem joins_toks {x y : List UInt8} {wx wy : List Ev} (hx : Toks x wx) (hy : Toks y wy) : evT 0 (x ++ ([10] ++ y)) = wx ++ (⟨7, x.length, [], 0, 0⟩ :: (evT 0 y).map (Ev.sh (x.length + 1))) := by
  rw [hx.1, sh_zero, toks_line.1, hy.all, hy.all, List.map_append, sh_sh]
  simp [Ev.sh]
  omega
theorem row_some {W : World} {base : Nat} {e : TypeId} {sz n : Nat} {v : Value} {xs : List Value} (h : W.ownsRow base e sz v n xs) (hn : 0 < n) : ∃ g c, v = .slice (some ⟨g, 0, none⟩) n c := by
  obtain ⟨h0, ⟨_, h1⟩ | ⟨b, cap, cur, h1, _⟩⟩ := h
  · omega
  · exact ⟨_, _, h1⟩
theorem joins_len {x y : List UInt8} {wx wy : List Ev} (hx : Toks x wx) (hy : Toks y wy) : (evT 0 x).length = wx.length + 1 ∧ 0 < (evT 0 y).length ∧ (evT 0 (x ++ ([10] ++ y))).length = (evT 0 x).length + (evT 0 y).length := by
  refine ⟨by rw [hx.all]; simp, by rw [hy.all]; simp, ?_⟩
  rw [joins_toks hx hy, hx.all]
  simp
  omega
theorem joins_at1 {x y : List UInt8} {wx wy : List Ev} (hx : Toks x wx) (hy : Toks y wy) (k : Nat) (hk : k < wx.length) : ∃ e, (evT 0 x)[k]? = some e ∧ (evT 0 (x ++ ([10] ++ y)))[k]? = some e := by
  refine ⟨wx[k], ?_, ?_⟩
  · rw [hx.all, sh_zero, List.getElem?_append_left hk]; simp
  · rw [joins_toks hx hy, List.getElem?_append_left hk]; simp
theorem joins_at2 {x y : List UInt8} {wx wy : List Ev} (hx : Toks x wx) (hy : Toks y wy) : (evT 0 (x ++ ([10] ++ y)))[wx.length]? = some ⟨7, x.length, [], 0, 0⟩ := by
  rw [joins_toks hx hy, List.getElem?_append_right (Nat.le_refl _)]; simp
theorem joins_at3 {x y : List UInt8} {wx wy : List Ev} (hx : Toks x wx) (hy : Toks y wy) (j : Nat) (hj : j < (evT 0 y).length) : ∃ e, (evT 0 y)[j]? = some e ∧ (evT 0 (x ++ ([10] ++ y)))[wx.length + 1 + j]? = some (e.sh (x.length + 1)) ∧ e.p ≤ y.length := by
  refine ⟨(evT 0 y)[j], by simp, ?_, ?_⟩
  · rw [joins_toks hx hy, List.getElem?_append_right (by omega), show wx.length + 1 + j - wx.length = j + 1 by omega, List.getElem?_cons_succ, List.getElem?_map, List.getElem?_eq_getElem hj]; rfl
  · have := (evT_le (List.getElem_mem hj)).2; omega
theorem joins_ok {x y : List UInt8} {wx wy : List Ev} (hx : Toks x wx) (hy : Toks y wy) : ∀ e ∈ evT 0 (x ++ ([10] ++ y)), e.e = 0 := by
  have := (hx.app (toks_line.app hy)).ok
  exact this
end Go.Proofs.YtmikkacillfdeaaGreatDoor


/- What Parse answers of any text: a program that may be, no longer than its text; or where its fault is. -/
set_option linter.unusedSimpArgs false
set_option linter.unusedVariables false
namespace Go.Proofs.YtmikkacillfdeaaGreatDoor
open Go.RowKit Go.Sort

section
variable {ts : List Ev} {st : RS}
theorem fail_er (x : Ev) : (failS ts x st).er ≠ 0 := by
  unfold failS
  split
  · show (if greatT x = true then (2 : Int) else 5) ≠ 0
    split <;> decide
  · assumption
theorem tk_er {k : Int} (h : (tkS k ts st).er = 0) : tkS k ts st = st.on ∧ st.er = 0 := by
  unfold tkS takeS at h ⊢
  split at h
  · rename_i ho; rw [if_pos ho]; exact ⟨rfl, h⟩
  · exact absurd h (fail_er _)
theorem sign_er {s : ByteArray} (h : (signS s ts st).er = 0) : signS s ts st = st.on ∧ st.er = 0 := by
  unfold signS at h ⊢
  split at h
  · rename_i ho; rw [if_pos ho]; exact ⟨rfl, h⟩
  · exact absurd h (fail_er _)
theorem op_er (h : (opS ts st).er = 0) : opS ts st = st.on ∧ st.er = 0 := by
  unfold opS at h ⊢
  split at h
  · rename_i i hi; exact ⟨rfl, h⟩
  · exact absurd h (fail_er _)
theorem emF_er : ∀ (f : Nat) (st : RS), (emF ts f st).er = st.er
  | 0, st => rfl
  | f + 1, st => by
    unfold emF
    split
    · exact emF_er f st.on
    · rfl
theorem line_er (ht : Tks ts) (hi : InS ts st) (h : (lineS ts st).er = 0) : st.er = 0 ∧ st.nx + 1 ≤ (lineS ts st).nx := by
  unfold lineS at h ⊢
  have h1 : (tkS 7 ts st).er = 0 := by unfold emS at h; rwa [emF_er] at h
  have h2 := tk_er h1
  have h3 := em_in ht (ts.length - (tkS 7 ts st).nx) (tk_in ht hi (k := 7) (by decide)).1
  refine ⟨h2.2, ?_⟩
  have h4 : (tkS 7 ts st).nx = st.nx + 1 := by rw [h2.1]; rfl
  rw [← h4]
  exact h3.2
theorem two_er (h : (twoS ts st).er = 0) : (twoS ts st).nx = st.nx + 3 ∧ st.er = 0 := by
  unfold twoS at h ⊢
  have h1 := tk_er h
  have h2 := sign_er h1.2
  have h3 := tk_er h2.2
  rw [h1.1, h2.1, h3.1]
  exact ⟨rfl, h3.2⟩
/-- As many tokens are taken as the instruction has. -/
theorem setr_er {d : Int} (h : (setR d ts st).2.er = 0) : (setR d ts st).2.nx + 2 = st.nx + (txI (setR d ts st).1).length ∧ st.er = 0 := by
  unfold setR at h ⊢
  split
  · rename_i hk
    rw [if_pos hk] at h
    have h1 := tk_er h
    rw [h1.1]
    exact ⟨rfl, h1.2⟩
  rename_i hk
  rw [if_neg hk] at h
  split
  · rename_i hk2
    rw [if_pos hk2] at h
    have h1 := tk_er h
    rw [h1.1]
    exact ⟨rfl, h1.2⟩
  rename_i hk2
  rw [if_neg hk2] at h
  split
  · rename_i hb
    rw [if_pos hb] at h
    exact ⟨rfl, h⟩
  rename_i hb
  rw [if_neg hb] at h
  split
  · rename_i hb2
    rw [if_pos hb2] at h
    have h1 := tk_er h
    dsimp only
    rw [h1.1]
    exact ⟨rfl, h1.2⟩
  rename_i hb2
  rw [if_neg hb2] at h
  split
  · rename_i hb3
    rw [if_pos hb3] at h
    have h1 := tk_er h
    dsimp only
    rw [h1.1]
    exact ⟨rfl, h1.2⟩
  rename_i hb3
  rw [if_neg hb3] at h
  have h1 := two_er h
  have h2 := op_er h1.2
  refine ⟨?_, h2.2⟩
  show (twoS ts (opS ts st)).nx + 2 = st.nx + 6
  rw [h1.1, h2.1]
  rfl
theorem insD_er {x : InsM} {s1 : RS} (he : insD ts st = some (x, s1)) (h : s1.er = 0) : s1.nx = st.nx + (txI x).length ∧ st.er = 0 := by
  unfold insD at he
  split at he
  · have e1 : (setD ts st).1 = x := congrArg Prod.fst (Option.some.inj he)
    have e2 : (setD ts st).2 = s1 := congrArg Prod.snd (Option.some.inj he)
    subst e1 e2
    unfold setD at h ⊢
    have h1 := setr_er h
    have h2 := sign_er h1.2
    have h3 := tk_er h2.2
    refine ⟨?_, h3.2⟩
    have h4 : (signS sEq ts (tkS 2 ts st)).nx = st.nx + 2 := by rw [h2.1, h3.1]; rfl
    have := h1.1
    omega
  split at he
  · cases he
    have h1 := tk_er h
    rw [h1.1]
    exact ⟨rfl, h1.2⟩
  split at he
  · cases he
    have h1 := tk_er h
    have h2 := sign_er h1.2
    have h3 := tk_er h2.2
    rw [h1.1, h2.1, h3.1]
    exact ⟨rfl, h3.2⟩
  split at he
  · cases he
    have h1 := two_er h
    rw [h1.1]
    exact ⟨rfl, h1.2⟩
  · cases he
theorem lastD_er (h : (lastD ts st).2.er = 0) : (lastD ts st).2.nx = st.nx + (txL (lastD ts st).1.1 (lastD ts st).1.2.1 (lastD ts st).1.2.2.1 (lastD ts st).1.2.2.2).length ∧ st.er = 0 := by
  unfold lastD at h ⊢
  split
  · rename_i hb
    rw [if_pos hb] at h
    have h1 := tk_er h
    dsimp only
    rw [h1.1]
    exact ⟨rfl, h1.2⟩
  rename_i hb
  rw [if_neg hb] at h
  split
  · rename_i hb2
    rw [if_pos hb2] at h
    have h1 := tk_er h
    have h2 := sign_er h1.2
    have h3 := tk_er h2.2
    have h4 := sign_er h3.2
    have h5 := tk_er h4.2
    dsimp only
    rw [h1.1, h2.1, h3.1, h4.1, h5.1]
    exact ⟨rfl, h5.2⟩
  rename_i hb2
  rw [if_neg hb2] at h
  split
  · rename_i hb3
    rw [if_pos hb3] at h
    have h1 := tk_er h
    dsimp only
    rw [h1.1]
    exact ⟨rfl, h1.2⟩
  rename_i hb3
  rw [if_neg hb3] at h
  split
  · rename_i hb4
    rw [if_pos hb4] at h
    exact ⟨rfl, h⟩
  rename_i hb4
  rw [if_neg hb4] at h
  exact absurd h (fail_er _)
theorem inss_er (ht : Tks ts) : ∀ (n : Nat) {st : RS}, ROk ts st → ts.length - st.nx ≤ n → (insL ts st).2.er = 0 → (txIs (insL ts st).1).length + st.nx ≤ (insL ts st).2.nx ∧ st.er = 0
  | 0, st, hr, hn, h => by have := hr.i; unfold InS at this; omega
  | n + 1, st, hr, hn, h => by
    cases he : insD ts st with
    | none => rw [insL_none hr.i he] at h ⊢; exact ⟨by simp [txIs], h⟩
    | some r =>
      obtain ⟨x, s1⟩ := r
      have r1 := ins_step ht hr he
      have l1 := line_in ht r1.1.i
      have hi := hr.i
      unfold InS at hi
      rw [insL_some ht hr he] at h ⊢
      have h2 := inss_er ht n (line_ok' ht r1.1) (by have := r1.2; have := l1.2; omega) h
      have h3 := line_er ht r1.1.i h2.2
      have h4 := insD_er he h3.1
      refine ⟨?_, h4.2⟩
      have e : (txIs (x :: (insL ts (lineS ts s1)).1)).length = (txI x).length + 1 + (txIs (insL ts (lineS ts s1)).1).length := by
        rw [show txIs (x :: (insL ts (lineS ts s1)).1) = (txI x ++ [[10]]) ++ txIs (insL ts (lineS ts s1)).1 by simp [txIs], List.length_append, List.length_append]; rfl
      show (txIs (x :: (insL ts (lineS ts s1)).1)).length + st.nx ≤ (insL ts (lineS ts s1)).2.nx
      rw [e]
      have := h2.1; have := h3.2; have := h4.1
      omega
/-- A block, and whether it is the last. -/
theorem blk_er (ht : Tks ts) (hr : ROk ts st) (h : (blkD ts st).2.er = 0) : st.er = 0 ∧ ((txB (blkD ts st).1).length + st.nx ≤ (blkD ts st).2.nx ∨ (txB (blkD ts st).1).length + st.nx ≤ (blkD ts st).2.nx + 1 ∧ (curE ts (blkD ts st).2).k = 0) := by
  have r1 := head_ok ht hr
  have r2 := insL_ok ht ts.length r1 (by omega)
  have r3 := last_okD ht r2.1
  have hlen : (txB (blkD ts st).1).length = 4 + (txIs (insL ts (headS ts st)).1).length + (txL (lastD ts (insL ts (headS ts st)).2).1.1 (lastD ts (insL ts (headS ts st)).2).1.2.1 (lastD ts (insL ts (headS ts st)).2).1.2.2.1 (lastD ts (insL ts (headS ts st)).2).1.2.2.2).length := by
    unfold blkD txB
    simp only [List.length_append, List.length_cons, List.length_nil]
    omega
  have hh : ∀ {s : RS}, s = headS ts st → s.er = 0 → st.er = 0 ∧ st.nx + 3 ≤ s.nx := fun {s} e he => by
    subst e
    unfold headS at he ⊢
    have i2 := sign_in ht (tk_in ht hr.i (k := 3) (by decide)).1 (s := sColon) (by decide)
    have h1 := line_er ht i2.1 he
    have h2 := sign_er h1.1
    have h3 := tk_er h2.2
    refine ⟨h3.2, ?_⟩
    have h4 : (signS sColon ts (tkS 3 ts st)).nx = st.nx + 2 := by rw [h2.1, h3.1]; rfl
    have := h1.2
    omega
  have key : (lastD ts (insL ts (headS ts st)).2).2.er = 0 → st.er = 0 ∧ (txB (blkD ts st).1).length + st.nx ≤ (lastD ts (insL ts (headS ts st)).2).2.nx + 1 := fun he => by
    have h1 := lastD_er he
    have h2 := inss_er ht ts.length r1 (by omega) h1.2
    have h3 := hh rfl h2.2
    refine ⟨h3.1, ?_⟩
    rw [hlen]
    have := h1.1; have := h2.1; have := h3.2
    omega
  have e2 : (blkD ts st).2 = endS ts (lastD ts (insL ts (headS ts st)).2).2 := rfl
  by_cases hc : (curE ts (lastD ts (insL ts (headS ts st)).2).2).k = 0
  · have e3 : endS ts (lastD ts (insL ts (headS ts st)).2).2 = (lastD ts (insL ts (headS ts st)).2).2 := by unfold endS; rw [if_pos hc]
    rw [e2, e3] at h ⊢
    exact ⟨(key h).1, .inr ⟨(key h).2, hc⟩⟩
  · have e3 : endS ts (lastD ts (insL ts (headS ts st)).2).2 = lineS ts (lastD ts (insL ts (headS ts st)).2).2 := by unfold endS; rw [if_neg hc]
    rw [e2, e3] at h ⊢
    have h1 := line_er ht r3.i h
    have h2 := key h1.1
    exact ⟨h2.1, .inl (by have := h2.2; have := h1.2; omega)⟩
theorem blks_er (ht : Tks ts) : ∀ (n : Nat) {st : RS}, ROk ts st → ts.length - st.nx ≤ n → (blksL ts st).2.er = 0 → st.er = 0 ∧ (txP (blksL ts st).1).length + st.nx ≤ (blksL ts st).2.nx + 1 ∧ ROk ts (blksL ts st).2
  | 0, st, hr, hn, h => by have := hr.i; unfold InS at this; omega
  | n + 1, st, hr, hn, h => by
    by_cases hc : (curE ts st).k = 0
    · rw [blksL_end hr.i hc] at h ⊢
      exact ⟨h, by simp [txP], hr⟩
    · have r1 := blk_step ht hr hc
      have hi := hr.i
      unfold InS at hi
      rw [blksL_step ht hr hc] at h ⊢
      have h2 := blks_er ht n r1.1 (by have := r1.2; omega) h
      have h3 := blk_er ht hr h2.1
      refine ⟨h3.1, ?_, h2.2.2⟩
      show (txP ((blkD ts st).1 :: (blksL ts (blkD ts st).2).1)).length + st.nx ≤ (blksL ts (blkD ts st).2).2.nx + 1
      rw [show txP ((blkD ts st).1 :: (blksL ts (blkD ts st).2).1) = txB (blkD ts st).1 ++ txP (blksL ts (blkD ts st).2).1 by simp [txP], List.length_append]
      rcases h3.2 with h4 | ⟨h4, h5⟩
      · have := h2.2.1; omega
      · rw [blksL_end r1.1.i h5]
        simp only [txP, List.flatMap_nil, List.length_nil]
        omega
theorem progD_er (ht : Tks ts) (hp : 0 < ts.length) (h : (progD ts).2.er = 0) : (txP (progD ts).1).length ≤ ts.length := by
  have h0 : ROk ts ⟨0, 0, 0⟩ := ⟨hp, fun he => absurd rfl he⟩
  have h1 := blks_er ht ts.length (em_ok ht h0) (by omega) h
  have h2 := h1.2.2.i
  unfold InS at h2
  have h3 := h1.2.1
  show (txP (blksL ts (emS ts ⟨0, 0, 0⟩)).1).length ≤ ts.length
  omega
end
section
variable {ts : List Ev}
/-- What holds of the reader at first, and is kept as it goes on and where it fails, holds at the end. -/
structure Inv (ts : List Ev) (Q : RS → Prop) : Prop where
  on : ∀ st, Q st → Q st.on
  fail : ∀ st, Q st → Q (failS ts (curE ts st) st)
variable {Q : RS → Prop} {st : RS}
theorem Inv.tk (I : Inv ts Q) (k : Int) (h : Q st) : Q (tkS k ts st) := by
  unfold tkS takeS; split
  · exact I.on _ h
  · exact I.fail _ h
theorem Inv.sign (I : Inv ts Q) (s : ByteArray) (h : Q st) : Q (signS s ts st) := by
  unfold signS; split
  · exact I.on _ h
  · exact I.fail _ h
theorem Inv.op (I : Inv ts Q) (h : Q st) : Q (opS ts st) := by
  unfold opS; split
  · exact I.on _ h
  · exact I.fail _ h
theorem Inv.emF (I : Inv ts Q) : ∀ (f : Nat) {st : RS}, Q st → Q (emF ts f st)
  | 0, st, h => h
  | f + 1, st, h => by
    unfold Go.Proofs.YtmikkacillfdeaaGreatDoor.emF; split
    · exact I.emF f (I.on _ h)
    · exact h
theorem Inv.line (I : Inv ts Q) (h : Q st) : Q (lineS ts st) := I.emF _ (I.tk 7 h)
theorem Inv.two (I : Inv ts Q) (h : Q st) : Q (twoS ts st) := I.tk 2 (I.sign comma (I.tk 2 h))
theorem Inv.setr (I : Inv ts Q) (d : Int) (h : Q st) : Q (setR d ts st).2 := by
  unfold setR
  split
  · exact I.tk 5 h
  split
  · exact I.tk 2 h
  split
  · exact I.on _ h
  split
  · exact I.tk 4 (I.on _ h)
  split
  · exact I.tk 2 (I.on _ h)
  · exact I.two (I.op h)
theorem Inv.ins (I : Inv ts Q) (h : Q st) {x : InsM} {s1 : RS} (he : insD ts st = some (x, s1)) : Q s1 := by
  unfold insD at he
  split at he
  · have e2 : (setD ts st).2 = s1 := congrArg Prod.snd (Option.some.inj he)
    subst e2
    exact I.setr _ (I.sign _ (I.tk 2 h))
  split at he
  · cases he; exact I.tk 2 (I.on _ h)
  split at he
  · cases he; exact I.tk 2 (I.sign _ (I.tk 4 (I.on _ h)))
  split at he
  · cases he; exact I.two (I.on _ h)
  · cases he
theorem Inv.insF (I : Inv ts Q) : ∀ (f : Nat) {st : RS}, Q st → Q (insF ts f st).2
  | 0, st, h => h
  | f + 1, st, h => by
    unfold Go.Proofs.YtmikkacillfdeaaGreatDoor.insF
    cases he : insD ts st with
    | none => exact h
    | some r =>
      obtain ⟨x, s1⟩ := r
      exact I.insF f (I.line (I.ins h he))
theorem Inv.last (I : Inv ts Q) (h : Q st) : Q (lastD ts st).2 := by
  unfold lastD
  split
  · exact I.tk 3 (I.on _ h)
  split
  · exact I.tk 3 (I.sign _ (I.tk 3 (I.sign _ (I.tk 2 (I.on _ h)))))
  split
  · exact I.tk 2 (I.on _ h)
  split
  · exact I.on _ h
  · exact I.fail _ h
theorem Inv.blk (I : Inv ts Q) (h : Q st) : Q (blkD ts st).2 := by
  show Q (endS ts (lastD ts (insL ts (headS ts st)).2).2)
  have h1 := I.last (I.insF ts.length (I.line (I.sign sColon (I.tk 3 h))))
  unfold endS
  split
  · exact h1
  · exact I.line h1
theorem Inv.blks (I : Inv ts Q) : ∀ (f : Nat) {st : RS}, Q st → Q (blksF ts f st).2
  | 0, st, h => h
  | f + 1, st, h => by
    unfold blksF
    split
    · exact h
    · exact I.blks f (I.blk h)
theorem Inv.prog (I : Inv ts Q) (h : Q ⟨0, 0, 0⟩) : Q (progD ts).2 := I.blks _ (I.emF _ h)
theorem prog_pl {n : Nat} (hp : ∀ x ∈ ts, x.p ≤ n) : 0 ≤ (progD ts).2.pl ∧ (progD ts).2.pl ≤ (n : Int) := by
  refine Inv.prog (Q := fun st => 0 ≤ st.pl ∧ st.pl ≤ (n : Int)) ⟨fun st h => h, fun st h => ?_⟩ ⟨by simp, by simp⟩
  unfold failS
  split
  · show 0 ≤ ((curE ts st).p : Int) ∧ ((curE ts st).p : Int) ≤ (n : Int)
    have hc : (curE ts st).p ≤ n := by
      unfold curE
      cases hg : ts[st.nx]? with
      | none => exact Nat.zero_le _
      | some x => exact hp x (List.mem_of_getElem? hg)
    omega
  · exact h
end
theorem firstE_each : ∀ {l : List Int}, firstE l = 0 → ∀ x ∈ l, x = 0
  | [], _, x, hx => by simp at hx
  | y :: r, h, x, hx => by
    unfold firstE at h
    split at h
    · rename_i hy
      rcases List.mem_cons.1 hx with rfl | hx
      · exact hy
      · exact firstE_each h x hx
    · rename_i hy; exact absurd h hy
theorem labsE_each : ∀ {l seen : List Int}, labsE l seen = 0 → ∀ x ∈ l, 0 ≤ x ∧ x < 100000
  | [], _, _, x, hx => by simp at hx
  | y :: r, seen, h, x, hx => by
    unfold labsE at h
    split at h
    · cases h
    · rename_i hy
      split at h
      · cases h
      · rcases List.mem_cons.1 hx with rfl | hx
        · exact Classical.not_not.1 hy
        · exact labsE_each h x hx
/-- Blocks that were read, and that Check takes, are such as their text is read as. -/
theorem blkP_of {P : List ABlk} (hg : ∀ b ∈ P, BlkG b) (hc : checkA P = 0) : ∀ b ∈ P, BlkP' b := by
  intro b hb
  have G := hg b hb
  unfold checkA checkE at hc
  split at hc
  · cases hc
  split at hc
  · cases hc
  split at hc
  · rename_i h; exact absurd hc h
  rename_i _ _ hl
  have hl := Classical.not_not.1 hl
  have hm : (b.at (.slice none 0 0)) ∈ P.map fun b => b.at (.slice none 0 0) := List.mem_map_of_mem hb
  have hbk := firstE_each hc _ (List.mem_map_of_mem hm)
  unfold blkE at hbk
  have hlab := labsE_each hl
  have hi : ∀ x ∈ b.ins, insE x = 0 := fun x hx => firstE_each hbk _ (by
    show insE x ∈ ([] : List PhiM).map _ ++ b.ins.map insE ++ _
    simp only [List.map_nil, List.nil_append, List.mem_append, List.mem_map]
    exact .inl ⟨x, hx, rfl⟩)
  have he := firstE_each hbk (lastE (labsOf (P.map fun b => b.at (.slice none 0 0))) b.e b.a b.y b.n) (by
    show _ ∈ _ ++ [_]
    exact List.mem_append_right _ (List.mem_singleton.2 rfl))
  have hv := lastV_of he G.e.1 hlab
  exact ⟨G.l, fun x hx => insP_of (hi x hx) (G.i x hx).1 (G.i x hx).2.2.1 (G.i x hx).2.2.2.2, hv.1, hv.2⟩
theorem evs_le {s : ByteArray} {x : Ev} (h : x ∈ evsAll s) : x.p ≤ s.size := by
  unfold evsAll at h
  split at h
  · simp at h; subst h; dsimp only; omega
  · rw [evsFrom_all] at h
    have := (evT_le h).2
    rw [size_list] at this
    omega
theorem evs_len (s : ByteArray) : (evsAll s).length ≤ s.size + 1 := by
  unfold evsAll
  split
  · simp
  · rw [evsFrom_all]
    have := evT_len 0 s.data.toList
    rw [size_list] at this
    exact this
/-- **What Parse answers.** -/
theorem parse_told (s : ByteArray) :
    ((parseR s).2.2 = 0 → (parseR s).2.1 = 0 ∧ checkA (parseR s).1 = 0 ∧ (∀ b ∈ (parseR s).1, BlkP' b) ∧ (txP (parseR s).1).length ≤ (evsAll s).length ∧ cntA (parseR s).1 < 100001) ∧
    ((parseR s).2.2 ≠ 0 → (parseR s).1 = [] ∧ 0 ≤ (parseR s).2.1 ∧ (parseR s).2.1 ≤ (s.size : Int)) := by
  unfold parseR
  cases hf : (evsAll s).find? (fun x => decide (x.e ≠ 0)) with
  | some x =>
    have hx : x ∈ evsAll s := List.mem_of_find?_eq_some hf
    have he : x.e ≠ 0 := by simpa using List.find?_some hf
    refine ⟨fun h => absurd h he, fun _ => ⟨rfl, by simp, ?_⟩⟩
    show ((x.p : Nat) : Int) ≤ _
    have : x.p ≤ s.size := evs_le hx
    omega
  | none =>
    have h0 : ∀ x ∈ evsAll s, x.e = 0 := fun x hx => by
      have := List.find?_eq_none.1 hf x hx
      simpa using this
    obtain ⟨hs, _, ok⟩ := ts_ok h0
    have hpl := prog_pl (ts := evsAll s) (n := s.size) (fun x hx => evs_le hx)
    dsimp only
    by_cases he : (progD (evsAll s)).2.er ≠ 0
    · rw [if_pos he]
      exact ⟨fun h => absurd h he, fun _ => ⟨rfl, hpl⟩⟩
    · rw [if_neg he]
      by_cases hc : checkA (progD (evsAll s)).1 ≠ 0
      · rw [if_pos hc]
        exact ⟨fun h => absurd h hc, fun _ => ⟨rfl, by dsimp only; omega, by dsimp only; omega⟩⟩
      · rw [if_neg hc]
        have hc := Classical.not_not.1 hc
        exact ⟨fun _ => ⟨rfl, hc, blkP_of (prog_in ok).1 hc, progD_er ok.t ok.p (Classical.not_not.1 he), (prog_in ok).2.1⟩, fun h => absurd rfl h⟩
end Go.Proofs.YtmikkacillfdeaaGreatDoor


/- Plain, and Check, of a program that was read. -/
set_option linter.unusedSimpArgs false
set_option linter.unusedVariables false
namespace Go.Proofs.YtmikkacillfdeaaGreatDoor
open Go.RowKit Go.Sort

theorem Plp.ok {w : World} {v : Value} {bs : List BlkM} (h : Plp w v bs) : ProgOk w v bs :=
  ⟨h.b, fun B hB => ⟨by rw [(h.p B hB).1, (h.p B hB).2]; exact Sl.nil _ _ _, fun y hy => by rw [(h.p B hB).2] at hy; simp at hy, h.i B hB⟩⟩
theorem blkP_wf {B : BlkM} (hp : B.phis = []) (h : BlkP' B.ab) : BlkWf B := by
  have h64 := blk_64 h
  have q : ∀ {x : Int}, W64 x → wfI x := fun {x} hx => wfI_mk hx.1 hx.2
  refine ⟨q h64.l, q h64.y, q h64.n, fun y hy => by rw [hp] at hy; simp at hy, fun x hx => ?_⟩
  have hv := (h.i x hx).v
  cases hv <;> simp
/-- Check of a program that was read. -/
theorem check_p (v : Value) (bs : List BlkM) (w : World) (hk : Kinds w) (hp : Plp w v bs) (hP : ∀ b ∈ bs.map BlkM.ab, BlkP' b) (hn : cntA (bs.map BlkM.ab) < 100001) :
    Calls Tryz.prog 20 #[.agg #[v]] w fun r w' => r = .returned (.int .i64 (checkA (bs.map BlkM.ab))) ∧ Tch [] w w' := by
  have h0 : ∀ B ∈ bs, B.phis = [] := fun B hB => (hp.p B hB).2
  refine (check_any v bs w hk hp.ok (fun B hB => blkP_wf (h0 B hB) (hP _ (List.mem_map_of_mem hB))) (by rw [countM_cntA h0]; omega)).mono ?_
  rintro r w' ⟨rfl, hg⟩
  rw [checkE_ab h0]
  exact ⟨rfl, hg.tch⟩
end Go.Proofs.YtmikkacillfdeaaGreatDoor


/- ParseAny: what is told of its texts. -/
set_option linter.unusedSimpArgs false
set_option linter.unusedVariables false
namespace Go.Proofs.YtmikkacillfdeaaGreatDoor
open Go.RowKit Go.Sort

/-- What may be put in. -/
def x17 : List (List UInt8) := [[64, 51], [58], [10], [37, 50], [61], [55], [97, 100, 100], [44], [106, 117, 109, 112], [98, 114], [36, 49], [105, 110], [111, 117, 116], [114, 101, 116], [37, 49, 48, 48, 48, 48, 48], [64, 49, 48, 48, 48, 48, 48], [36, 49, 54]]
def xOf (p : Int) : List UInt8 := x17.getD (p % 17).toNat []
theorem mod17 (p : Int) : (p % 17).toNat = 0 ∨ (p % 17).toNat = 1 ∨ (p % 17).toNat = 2 ∨ (p % 17).toNat = 3 ∨ (p % 17).toNat = 4 ∨ (p % 17).toNat = 5 ∨ (p % 17).toNat = 6 ∨ (p % 17).toNat = 7 ∨ (p % 17).toNat = 8 ∨ (p % 17).toNat = 9 ∨ (p % 17).toNat = 10 ∨ (p % 17).toNat = 11 ∨ (p % 17).toNat = 12 ∨ (p % 17).toNat = 13 ∨ (p % 17).toNat = 14 ∨ (p % 17).toNat = 15 ∨ (p % 17).toNat = 16 := by omega
theorem xOf_rd (p : Int) : ∃ k, RdK (xOf p ++ [32]) [k] := by
  have hR : Asks 37 2 := by unfold Asks; decide
  have hL : Asks 64 3 := by unfold Asks; decide
  have hS : Asks 36 4 := by unfold Asks; decide
  have i0 : ∀ _ : Unit, (64 :: Lib.decDigits 3) ++ [32] = ([64, 51] ++ [32] : List UInt8) := fun _ => by kernel_rfl
  have i1 : ∀ _ : Unit, (37 :: Lib.decDigits 2) ++ [32] = ([37, 50] ++ [32] : List UInt8) := fun _ => by kernel_rfl
  have i2 : ∀ _ : Unit, Lib.itoa 7 ++ [32] = ([55] ++ [32] : List UInt8) := fun _ => by kernel_rfl
  have i3 : ∀ _ : Unit, (36 :: Lib.decDigits 1) ++ [32] = ([36, 49] ++ [32] : List UInt8) := fun _ => by kernel_rfl
  have i4 : ∀ _ : Unit, (37 :: Lib.decDigits 100000) ++ [32] = ([37, 49, 48, 48, 48, 48, 48] ++ [32] : List UInt8) := fun _ => by kernel_rfl
  have i5 : ∀ _ : Unit, (64 :: Lib.decDigits 100000) ++ [32] = ([64, 49, 48, 48, 48, 48, 48] ++ [32] : List UInt8) := fun _ => by kernel_rfl
  have i6 : ∀ _ : Unit, (36 :: Lib.decDigits 16) ++ [32] = ([36, 49, 54] ++ [32] : List UInt8) := fun _ => by kernel_rfl
  unfold xOf
  rcases mod17 p with h | h | h | h | h | h | h | h | h | h | h | h | h | h | h | h | h <;> rw [h]
  · exact ⟨_, (rd_asks hL 3 (by omega)).eq (i0 ()) rfl⟩
  · exact ⟨_, rd_colon⟩
  · exact ⟨_, rd_nl⟩
  · exact ⟨_, (rd_asks hR 2 (by omega)).eq (i1 ()) rfl⟩
  · exact ⟨_, rd_eq⟩
  · exact ⟨_, (rd_n (n := 7) (by unfold W64; omega)).eq (i2 ()) rfl⟩
  · exact ⟨_, rd_word (l := [97, 100, 100]) (by decide) (by decide) (by decide)⟩
  · exact ⟨_, rd_comma⟩
  · exact ⟨_, rd_word (l := lJump) (by decide) (by decide) (by decide)⟩
  · exact ⟨_, rd_word (l := lBr) (by decide) (by decide) (by decide)⟩
  · exact ⟨_, (rd_asks hS 1 (by omega)).eq (i3 ()) rfl⟩
  · exact ⟨_, rd_word (l := lIn) (by decide) (by decide) (by decide)⟩
  · exact ⟨_, rd_word (l := lOut) (by decide) (by decide) (by decide)⟩
  · exact ⟨_, rd_word (l := lRet) (by decide) (by decide) (by decide)⟩
  · exact ⟨_, (rd_asks hR 100000 (by omega)).eq (i4 ()) rfl⟩
  · exact ⟨_, (rd_asks hL 100000 (by omega)).eq (i5 ()) rfl⟩
  · exact ⟨_, (rd_asks hS 16 (by omega)).eq (i6 ()) rfl⟩
theorem xOf_len (p : Int) : (xOf p).length ≤ 22 := by
  unfold xOf
  rcases mod17 p with h | h | h | h | h | h | h | h | h | h | h | h | h | h | h | h | h <;> rw [h] <;> decide
def c17 : List Value := x17.map fun x => .string (bytesOf x)
theorem c17_eq : c17.toArray = #[.string ⟨#[64, 51]⟩, .string ⟨#[58]⟩, .string ⟨#[10]⟩, .string ⟨#[37, 50]⟩, .string ⟨#[61]⟩, .string ⟨#[55]⟩, .string ⟨#[97, 100, 100]⟩, .string ⟨#[44]⟩, .string ⟨#[106, 117, 109, 112]⟩, .string ⟨#[98, 114]⟩, .string ⟨#[36, 49]⟩, .string ⟨#[105, 110]⟩, .string ⟨#[111, 117, 116]⟩, .string ⟨#[114, 101, 116]⟩, .string ⟨#[37, 49, 48, 48, 48, 48, 48]⟩, .string ⟨#[64, 49, 48, 48, 48, 48, 48]⟩, .string ⟨#[36, 49, 54]⟩] := rfl
theorem x17_cell (W : World) (p : Int) : (W.alloc (.cells #[.string ⟨#[64, 51]⟩, .string ⟨#[58]⟩, .string ⟨#[10]⟩, .string ⟨#[37, 50]⟩, .string ⟨#[61]⟩, .string ⟨#[55]⟩, .string ⟨#[97, 100, 100]⟩, .string ⟨#[44]⟩, .string ⟨#[106, 117, 109, 112]⟩, .string ⟨#[98, 114]⟩, .string ⟨#[36, 49]⟩, .string ⟨#[105, 110]⟩, .string ⟨#[111, 117, 116]⟩, .string ⟨#[114, 101, 116]⟩, .string ⟨#[37, 49, 48, 48, 48, 48, 48]⟩, .string ⟨#[64, 49, 48, 48, 48, 48, 48]⟩, .string ⟨#[36, 49, 54]⟩] 9)).cell? ⟨W.heap.size, (p % 17).toNat, none⟩ = some (.string (bytesOf (xOf p))) := by
  rw [← c17_eq, cell_of_row _ W.heap.size (p % 17).toNat _ 9 (0, 0) (heap_alloc_new W _)]
  unfold xOf c17
  have h : (p % 17).toNat < 17 := by omega
  rw [List.getElem?_toArray, List.getElem?_map, List.getD_eq_getElem?_getD, List.getElem?_eq_getElem (show (p % 17).toNat < x17.length from h)]
  rfl
theorem PW.rd {l : List (List UInt8)} {ks : List Tk} (h : PW l ks) : RdK (txT l) ks := by
  induction h with
  | nil => exact RdK.nil
  | cons h _ ih => exact rd_cons h ih
theorem PW.drop' {l : List (List UInt8)} {ks : List Tk} (h : PW l ks) : ∀ k, PW (l.drop k) (ks.drop k) := by
  induction h with
  | nil => intro k; rw [List.drop_nil, List.drop_nil]; exact .nil
  | cons h g ih =>
    intro k
    cases k with
    | zero => exact .cons h g
    | succ k => exact ih k
theorem PW.len' {l : List (List UInt8)} {ks : List Tk} (h : PW l ks) : ks.length = l.length := by
  induction h with
  | nil => rfl
  | cons _ _ ih => simp [ih]
/-- Texts, each of which is one token. -/
def Toky (l : List (List UInt8)) : Prop := (∃ ks, PW l ks) ∧ (∀ x ∈ l, x.length ≤ 22)
theorem Toky.take {l : List (List UInt8)} (h : Toky l) (k : Nat) : Toky (l.take k) := by
  obtain ⟨⟨ks, h1⟩, h2⟩ := h
  exact ⟨⟨_, h1.take k⟩, fun x hx => h2 x (List.mem_of_mem_take hx)⟩
theorem Toky.drop {l : List (List UInt8)} (h : Toky l) (k : Nat) : Toky (l.drop k) := by
  obtain ⟨⟨ks, h1⟩, h2⟩ := h
  exact ⟨⟨_, h1.drop' k⟩, fun x hx => h2 x (List.mem_of_mem_drop hx)⟩
theorem Toky.app {l m : List (List UInt8)} (h : Toky l) (k : Toky m) : Toky (l ++ m) := by
  obtain ⟨⟨ks, h1⟩, h2⟩ := h
  obtain ⟨⟨js, k1⟩, k2⟩ := k
  exact ⟨⟨_, h1.app k1⟩, fun x hx => (List.mem_append.1 hx).elim (h2 x) (k2 x)⟩
theorem toky_x (p : Int) : Toky [xOf p] := by
  obtain ⟨k, h⟩ := xOf_rd p
  exact ⟨⟨[k], .cons h .nil⟩, fun x hx => by simp at hx; subst hx; exact xOf_len p⟩
theorem toky_prog {s : SmlM} (hl : lightB s = true) (hw : LinsWf s) : Toky (txP (progA s)) := ⟨⟨_, pw_prog (progA_p hl hw)⟩, txP_tok (progA_64 hl hw)⟩
/-- A text that is not too long: not too many tokens. -/
structure TxtOk (s : ByteArray) : Prop where
  n : s.size ≤ 100000
  e : (evsAll s).length ≤ 1000
theorem Toky.txt {l : List (List UInt8)} (h : Toky l) (hn : l.length ≤ 978) : (txT l).length ≤ 30000 ∧ TxtOk (bytesOf (txT l)) := by
  obtain ⟨⟨ks, h1⟩, h2⟩ := h
  have h3 := txT_len h2
  have h4 : (txT l).length ≤ 30000 := by omega
  refine ⟨h4, by rw [bytes_size]; omega, ?_⟩
  obtain ⟨ts, e1, _, t1⟩ := rdk_ts h1.rd
  rw [evsAll_list _ (by omega), e1]
  have := congrArg List.length t1
  rw [List.length_map, List.length_append, h1.len'] at this
  simp only [List.length_cons, List.length_nil] at this
  omega
theorem raw_txt {s : ByteArray} (h : s.size ≤ 300) : TxtOk s := ⟨by omega, by have := evs_len s; omega⟩
/-- A text that is read: its program's text is read as the same. -/
structure Again (s : ByteArray) (P : List ABlk) : Prop where
  r : parseR s = (P, 0, 0)
  c : checkA P = 0
  b : ∀ b ∈ P, BlkP' b
  n : cntA P < 100001
  l : (txP P).length ≤ 1000
  t : (txT (txP P)).length ≤ 30000
  a : parseR (bytesOf (txT (txP P))) = (P, 0, 0)
structure Wrong (s : ByteArray) (pl er : Int) : Prop where
  r : parseR s = ([], pl, er)
  e : er ≠ 0
  p : 0 ≤ pl ∧ pl ≤ (s.size : Int)
theorem again_or {s : ByteArray} (h : TxtOk s) : (∃ P, Again s P) ∨ ∃ pl er, Wrong s pl er := by
  have ht := parse_told s
  by_cases he : (parseR s).2.2 = 0
  · obtain ⟨h1, h2, h3, h4, h5⟩ := ht.1 he
    have hr : parseR s = ((parseR s).1, 0, 0) := Prod.ext rfl (Prod.ext h1 he)
    generalize (parseR s).1 = P at *
    have h64 : ∀ b ∈ P, Blk64 b := fun b hb => blk_64 (h3 b hb)
    have hl : (txP P).length ≤ 1000 := by have := h.e; omega
    have htl := txT_len (txP_tok h64)
    have ht2 : (txT (txP P)).length ≤ 30000 := by omega
    exact .inl ⟨P, hr, h2, h3, h5, hl, ht2, text_reads h3 h2 (by omega)⟩
  · obtain ⟨h1, h2⟩ := ht.2 he
    exact .inr ⟨_, _, by rw [← h1], he, h2⟩
/-- Split of a text that is not read: no fault, or the one that Parse tells. -/
theorem split_w {s : ByteArray} (hn : s.size ≤ 100000) {pl er : Int} (h : Wrong s pl er) (w : World) (hE : Env w) :
    Calls Tryz.prog 18 #[.string s] w fun e w' => ∃ v p f, e = .returned (.tuple #[v, .int .i64 p, .int .i64 f]) ∧ (f = 0 ∨ (f = er ∧ p = pl)) ∧ Tch [] w w' := by
  refine (split_any s (by omega) w hE).mono ?_
  rintro e w' (⟨v, rfl, _, _, hb⟩ | ⟨l, x, rfl, hpr, hl, hx, hb⟩)
  · exact ⟨v, _, _, rfl, .inl rfl, Tch.of_below hb⟩
  · have hf := find_bad hpr hl hx
    have hr : parseR s = ([], (x.p : Int), x.e) := by unfold parseR; rw [hf]
    have e1 := hr.symm.trans h.r
    simp only [Prod.mk.injEq] at e1
    exact ⟨_, _, _, rfl, .inr ⟨e1.2.2, e1.2.1⟩, Tch.of_below hb⟩
end Go.Proofs.YtmikkacillfdeaaGreatDoor

