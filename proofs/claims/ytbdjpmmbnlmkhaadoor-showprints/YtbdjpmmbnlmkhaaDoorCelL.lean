
/- Slices that came in, by their cells; texts that are so many tokens, whatever follows. -/
import Derived.Test.YtbdjpmmbnlmkhaaDoorJw
set_option linter.unusedSimpArgs false
set_option linter.unusedVariables false
namespace Go.Proofs.YtbdjpmmbnlmkhaaDoor
open Go.RowKit Go.Sort

/-- The slice v shows n items of sz cells each. -/
def CelL (w : World) (sz : Nat) (v : Value) (n : Nat) (cs : List Value) : Prop :=
  cs.length = n * sz ∧ ∃ a c, v = .slice a n c ∧ n ≤ maxLen ∧ (n = 0 ∨ ∃ b off, a = some ⟨b, off, none⟩ ∧ ∀ j u, cs[j]? = some u → w.cell? ⟨b, off + j, none⟩ = some u)
theorem CelL.below {w w' : World} {sz n : Nat} {v : Value} {cs : List Value} (h : CelL w sz v n cs) (b : Below w.heap.size w w') : CelL w' sz v n cs := by
  obtain ⟨h0, a, c, h1, h2, h3⟩ := h
  refine ⟨h0, a, c, h1, h2, h3.imp id ?_⟩
  rintro ⟨bb, off, h4, h5⟩
  exact ⟨bb, off, h4, fun j u hj => (b.cell (p := ⟨bb, off + j, none⟩) (cell_lt (h5 j u hj))).trans (h5 j u hj)⟩
theorem fm_get {α : Type} {f : α → List Value} {sz : Nat} (hf : ∀ x, (f x).length = sz) : ∀ (l : List α) (i j : Nat) (x : α), l[i]? = some x → j < sz → (l.flatMap f)[i * sz + j]? = (f x)[j]?
  | [], i, j, x, h, _ => by simp at h
  | y :: r, 0, j, x, h, hj => by
    simp at h; subst h
    rw [List.flatMap_cons, List.getElem?_append_left (by rw [hf]; omega)]; simp
  | y :: r, i + 1, j, x, h, hj => by
    rw [List.flatMap_cons, List.getElem?_append_right (by rw [hf, Nat.add_mul]; omega), hf, show (i + 1) * sz + j - sz = i * sz + j by rw [Nat.add_mul]; omega]
    exact fm_get hf r i j x (by simpa using h) hj
theorem fm_len {α : Type} {f : α → List Value} {sz : Nat} (hf : ∀ x, (f x).length = sz) : ∀ (l : List α), (l.flatMap f).length = l.length * sz
  | [] => by simp
  | y :: r => by rw [List.flatMap_cons, List.length_append, hf, fm_len hf r, List.length_cons, Nat.add_mul]; omega
/-- A piece that came in. -/
structure PcM where
  k : Int
  g : Int
  n : Int
def PcM.cells (x : PcM) : List Value := [.int .u8 x.k, .int .u8 x.g, .int .i64 x.n]
structure PcWf (x : PcM) : Prop where
  k : 0 ≤ x.k ∧ x.k ≤ 255
  g : 0 ≤ x.g ∧ x.g ≤ 255
  n : -9223372036854775808 ≤ x.n ∧ x.n ≤ 9223372036854775807
/-- Pieces that came in. -/
def PcsAt (w : World) (v : Value) (ps : List PcM) : Prop := CelL w 3 v ps.length (ps.flatMap PcM.cells)
theorem PcsAt.at {w : World} {b o m c : Nat} {ps : List PcM} (h : PcsAt w (.slice (some ⟨b, o, none⟩) m c) ps) {i : Nat} {x : PcM} (hi : ps[i]? = some x) :
    w.cell? ⟨b, o + i * 3, none⟩ = some (.int .u8 x.k) ∧ w.cell? ⟨b, o + i * 3 + 1, none⟩ = some (.int .u8 x.g) ∧ w.cell? ⟨b, o + i * 3 + 2, none⟩ = some (.int .i64 x.n) := by
  have hlt : i < ps.length := (List.getElem?_eq_some_iff.1 hi).1
  obtain ⟨h0, a, c', h1, h2, h3⟩ := h
  cases h1
  rcases h3 with h3 | ⟨b', off', h4, h5⟩
  · omega
  · cases h4
    have g := fun j (hj : j < 3) => fm_get (f := PcM.cells) (sz := 3) (fun _ => rfl) ps i j x hi hj
    exact ⟨h5 (i * 3) _ (g 0 (by omega)), h5 (i * 3 + 1) _ (g 1 (by omega)), h5 (i * 3 + 2) _ (g 2 (by omega))⟩
theorem PcsAt.ptr {w : World} {v : Value} {ps : List PcM} (h : PcsAt w v ps) (hn : 0 < ps.length) : ∃ b o c, v = .slice (some ⟨b, o, none⟩) ps.length c := by
  obtain ⟨h0, a, c, h1, h2, h3⟩ := h
  rcases h3 with h3 | ⟨b, off, rfl, _⟩
  · omega
  · exact ⟨b, off, c, h1⟩
theorem PcsAt.shape {w : World} {v : Value} {ps : List PcM} (h : PcsAt w v ps) : ∃ a c, v = .slice a ps.length c ∧ ps.length ≤ maxLen := by
  obtain ⟨h0, a, c, h1, h2, h3⟩ := h
  exact ⟨a, c, h1, h2⟩
/-- Further on by d. -/
def Ev.sh (d : Nat) (x : Ev) : Ev := ⟨x.k, x.p + d, x.t, x.n, x.e⟩
theorem sh_zero (l : List Ev) : l.map (Ev.sh 0) = l := by
  induction l with
  | nil => rfl
  | cons x r ih => rw [List.map_cons, ih]; rfl
theorem sh_sh (a b : Nat) (l : List Ev) : (l.map (Ev.sh a)).map (Ev.sh b) = l.map (Ev.sh (b + a)) := by
  rw [List.map_map]
  apply List.map_congr_left
  intro x _
  simp [Ev.sh, Function.comp]; omega
/-- The text l is the tokens ws, whatever follows. -/
def Toks (l : List UInt8) (ws : List Ev) : Prop := (∀ p b, evT p (l ++ b) = ws.map (Ev.sh p) ++ evT (p + l.length) b) ∧ ∀ x ∈ ws, x.e = 0
theorem Toks.nil : Toks [] [] := ⟨fun p b => rfl, by simp⟩
theorem Toks.app {l m : List UInt8} {ws us : List Ev} (h : Toks l ws) (k : Toks m us) : Toks (l ++ m) (ws ++ us.map (Ev.sh l.length)) := by
  refine ⟨fun p b => ?_, fun x hx => ?_⟩
  · rw [List.append_assoc, h.1, k.1, List.map_append, sh_sh, List.length_append, List.append_assoc]
    rw [show p + (l.length + m.length) = p + l.length + m.length by omega]
  · rcases List.mem_append.1 hx with h1 | h1
    · exact h.2 x h1
    · obtain ⟨y, hy, rfl⟩ := List.mem_map.1 h1
      exact k.2 y hy
theorem toks_blank : Toks [32] [] := ⟨fun p b => by rw [List.singleton_append, evT_blank]; rfl, by simp⟩
theorem toks_piece {x : List UInt8} {k : Int} {t : List UInt8} {m : Int} (h : PReads x k t m) : Toks (x ++ [32]) [⟨k, 0, t, m, 0⟩] := by
  refine ⟨fun p b => ?_, by simp⟩
  rw [List.append_assoc, List.singleton_append, h.1, evT_blank, List.length_append, List.length_singleton]
  simp [Ev.sh, Nat.add_assoc]
theorem toks_note : Toks [35, 32, 64, 10] [⟨7, 3, [], 0, 0⟩] := by
  refine ⟨fun p b => ?_, by simp⟩
  have h1 := evT_note p [32, 64] b (by decide)
  have h2 := evT_line (p + ([32, 64] : List UInt8).length.succ) b
  refine h1.trans (h2.trans ?_)
  simp [Ev.sh]
  omega
theorem toks_line : Toks [10] [⟨7, 0, [], 0, 0⟩] := ⟨fun p b => by rw [List.singleton_append, evT_line]; simp [Ev.sh], by simp⟩
/-- All that is told of such a text. -/
theorem Toks.all {l : List UInt8} {ws : List Ev} (h : Toks l ws) (p : Nat) : evT p l = ws.map (Ev.sh p) ++ [⟨0, p + l.length, [], 0, 0⟩] := by
  have := h.1 p []
  rwa [List.append_nil, evT_nil] at this
theorem Toks.ok {l : List UInt8} {ws : List Ev} (h : Toks l ws) : ∀ x ∈ evT 0 l, x.e = 0 := fun x hx => by
  rw [h.all, sh_zero] at hx
  rcases List.mem_append.1 hx with h1 | h1
  · exact h.2 x h1
  · simp at h1; subst h1; rfl
end Go.Proofs.YtbdjpmmbnlmkhaaDoor
