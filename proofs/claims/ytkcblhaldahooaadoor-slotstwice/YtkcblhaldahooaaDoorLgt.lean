
/- The small programs that came in, as the walks are told of them; what calls of Label and of Light come to. -/
import Derived.Test.YtkcblhaldahooaaDoorJx
set_option linter.unusedSimpArgs false
set_option linter.unusedVariables false
namespace Go.Proofs.YtkcblhaldahooaaDoor
open Go.RowKit Go.Sort Go.Maps

/-- n items of sz cells each that came in: their cells are those of cs. -/
def Cel (w : World) (sz : Nat) (v : Value) (n : Nat) (cs : List Value) : Prop :=
  cs.length = n * sz ∧ ∃ a c, v = .slice a n c ∧ n ≤ maxLen ∧ (n = 0 ∨ ∃ b off, a = some ⟨b, off, none⟩ ∧ ∀ j u, cs[j]? = some u → w.cell? ⟨b, off + j, none⟩ = some u)
theorem Cel.gr {w w' : World} {sz n : Nat} {v : Value} {cs : List Value} (h : Cel w sz v n cs) (g : Gr w w') : Cel w' sz v n cs := by
  obtain ⟨h0, a, c, h1, h2, h3⟩ := h
  refine ⟨h0, a, c, h1, h2, h3.imp id ?_⟩
  rintro ⟨b, off, h4, h5⟩
  exact ⟨b, off, h4, fun j u hj => g.val (h5 j u hj)⟩
theorem Cel.shape {w : World} {sz n : Nat} {v : Value} {cs : List Value} (h : Cel w sz v n cs) : ∃ a c, v = .slice a n c ∧ n ≤ maxLen := by
  obtain ⟨h0, a, c, h1, h2, h3⟩ := h
  exact ⟨a, c, h1, h2⟩
theorem Cel.ptr {w : World} {sz n : Nat} {v : Value} {cs : List Value} (h : Cel w sz v n cs) (hn : 0 < n) : ∃ b o c, v = .slice (some ⟨b, o, none⟩) n c := by
  obtain ⟨h0, a, c, h1, h2, h3⟩ := h
  rcases h3 with h3 | ⟨b, off, rfl, _⟩
  · omega
  · exact ⟨b, off, c, h1⟩
theorem Cel.cell {w : World} {sz n m c b off : Nat} {cs : List Value} (h : Cel w sz (.slice (some ⟨b, off, none⟩) m c) n cs) (hn : 0 < n) (j : Nat) {u : Value} (hj : cs[j]? = some u) : w.cell? ⟨b, off + j, none⟩ = some u := by
  obtain ⟨h0, a, c', h1, h2, h3⟩ := h
  cases h1
  rcases h3 with h3 | ⟨b', off', h4, h5⟩
  · omega
  · cases h4; exact h5 j u hj
/-- A line that came in. -/
structure LinM where
  k : Int
  o : Int
  d : Int
  a : Int
  b : Int
  s : Int
  n : Int
def LinM.cells (x : LinM) : List Value := [.int .u8 x.k, .int .u8 x.o, .int .u8 x.d, .int .u8 x.a, .int .u8 x.b, .int .u8 x.s, .int .i16 x.n]
structure LinWf (x : LinM) : Prop where
  k : 0 ≤ x.k ∧ x.k ≤ 255
  o : 0 ≤ x.o ∧ x.o ≤ 255
  d : 0 ≤ x.d ∧ x.d ≤ 255
  a : 0 ≤ x.a ∧ x.a ≤ 255
  b : 0 ≤ x.b ∧ x.b ≤ 255
  s : 0 ≤ x.s ∧ x.s ≤ 255
  n : -32768 ≤ x.n ∧ x.n ≤ 32767
/-- A block that came in. -/
structure LBkM where
  lv : Value
  ls : List LinM
  e : Int
  a : Int
  y : Int
  n : Int
def LBkM.cells (x : LBkM) : List Value := [x.lv, .int .u8 x.e, .int .u8 x.a, .int .u8 x.y, .int .u8 x.n]
structure LBkOk (w : World) (x : LBkM) : Prop where
  l : Cel w 7 x.lv x.ls.length (x.ls.flatMap LinM.cells)
  w : ∀ y ∈ x.ls, LinWf y
  e : 0 ≤ x.e ∧ x.e ≤ 255
  a : 0 ≤ x.a ∧ x.a ≤ 255
  y : 0 ≤ x.y ∧ x.y ≤ 255
  n : 0 ≤ x.n ∧ x.n ≤ 255
/-- A small program that came in. -/
structure SmlM where
  r : Int
  bare : Bool
  bv : Value
  bs : List LBkM
structure SmlOk (w : World) (x : SmlM) : Prop where
  r : 0 ≤ x.r ∧ x.r ≤ 255
  b : Cel w 5 x.bv x.bs.length (x.bs.flatMap LBkM.cells)
  q : ∀ y ∈ x.bs, LBkOk w y
theorem LBkOk.gr {w w' : World} {x : LBkM} (h : LBkOk w x) (g : Gr w w') : LBkOk w' x := ⟨h.l.gr g, h.w, h.e, h.a, h.y, h.n⟩
theorem SmlOk.gr {w w' : World} {x : SmlM} (h : SmlOk w x) (g : Gr w w') : SmlOk w' x := ⟨h.r, h.b.gr g, fun y hy => (h.q y hy).gr g⟩
structure LBkAt (w : World) (b off : Nat) (x : LBkM) : Prop where
  c0 : w.cell? ⟨b, off, none⟩ = some x.lv
  c1 : w.cell? ⟨b, off + 1, none⟩ = some (.int .u8 x.e)
  c2 : w.cell? ⟨b, off + 2, none⟩ = some (.int .u8 x.a)
  c3 : w.cell? ⟨b, off + 3, none⟩ = some (.int .u8 x.y)
  c4 : w.cell? ⟨b, off + 4, none⟩ = some (.int .u8 x.n)
structure LinAt (w : World) (b off : Nat) (x : LinM) : Prop where
  c0 : w.cell? ⟨b, off, none⟩ = some (.int .u8 x.k)
  c1 : w.cell? ⟨b, off + 1, none⟩ = some (.int .u8 x.o)
  c2 : w.cell? ⟨b, off + 2, none⟩ = some (.int .u8 x.d)
  c3 : w.cell? ⟨b, off + 3, none⟩ = some (.int .u8 x.a)
  c4 : w.cell? ⟨b, off + 4, none⟩ = some (.int .u8 x.b)
  c5 : w.cell? ⟨b, off + 5, none⟩ = some (.int .u8 x.s)
  c6 : w.cell? ⟨b, off + 6, none⟩ = some (.int .i16 x.n)
theorem cel_item {α : Type} {w : World} {sz : Nat} {f : α → List Value} (hf : ∀ x, (f x).length = sz) {b off m c : Nat} {l : List α} (h : Cel w sz (.slice (some ⟨b, off, none⟩) m c) l.length (l.flatMap f)) {i : Nat} {x : α} (hx : l[i]? = some x) (j : Nat) {u : Value} (hu : (f x)[j]? = some u) :
    w.cell? ⟨b, off + i * sz + j, none⟩ = some u := by
  have hj : j < sz := by rw [← hf x]; exact (List.getElem?_eq_some_iff.1 hu).1
  have hn : 0 < l.length := Nat.zero_lt_of_lt (List.getElem?_eq_some_iff.1 hx).1
  have := h.cell hn (i * sz + j) ((flatMap_get hf l i j x hx hj).trans hu)
  rwa [← Nat.add_assoc] at this
theorem lbk_at {w : World} {b off m c : Nat} {l : List LBkM} (h : Cel w 5 (.slice (some ⟨b, off, none⟩) m c) l.length (l.flatMap LBkM.cells)) (i : Nat) {x : LBkM} (hx : l[i]? = some x) : LBkAt w b (off + i * 5) x :=
  have hf : ∀ x : LBkM, x.cells.length = 5 := fun _ => rfl
  ⟨cel_item hf h hx 0 rfl, cel_item hf h hx 1 rfl, cel_item hf h hx 2 rfl, cel_item hf h hx 3 rfl, cel_item hf h hx 4 rfl⟩
theorem lin_at {w : World} {b off m c : Nat} {l : List LinM} (h : Cel w 7 (.slice (some ⟨b, off, none⟩) m c) l.length (l.flatMap LinM.cells)) (i : Nat) {x : LinM} (hx : l[i]? = some x) : LinAt w b (off + i * 7) x :=
  have hf : ∀ x : LinM, x.cells.length = 7 := fun _ => rfl
  ⟨cel_item hf h hx 0 rfl, cel_item hf h hx 1 rfl, cel_item hf h hx 2 rfl, cel_item hf h hx 3 rfl, cel_item hf h hx 4 rfl, cel_item hf h hx 5 rfl, cel_item hf h hx 6 rfl⟩

def labV (i : Int) : Int := 3 * i + 7 * (i % 2)
set_option maxHeartbeats 400000 in
theorem label_any (i : Int) (h0 : 0 ≤ i) (h1 : i ≤ 1000) (w : World) :
    Calls Tryd.prog 14 #[.int .i64 i] w fun e w' => e = .returned (.int .i64 (labV i)) ∧ w = w' := by
  have hm := Int.emod_nonneg i (show (2 : Int) ≠ 0 by decide)
  have hm2 := Int.emod_lt_of_pos i (show (0 : Int) < 2 by decide)
  go_enter Tryd.func14, Tryd.ntmps14
  go_wp2
  go_ret
  exact ⟨ret_int (by unfold labV; rfl), rfl⟩

/-- Is it small? -/
def lightB (s : SmlM) : Bool := decide ((∀ b ∈ s.bs, b.ls.length ≤ 10) ∧ s.bs.length ≤ 8)
set_option maxRecDepth 100000 in
set_option maxHeartbeats 1000000 in
theorem light_any (s : SmlM) (w : World) (hs : SmlOk w s) :
    Calls Tryd.prog 6 #[.agg #[.int .u8 s.r, .bool s.bare, s.bv]] w fun e w' => e = .returned (.bool (lightB s)) ∧ Gr w w' := by
  have HS := hid hs
  obtain ⟨_, hb, hq⟩ := hs
  obtain ⟨va, vc, hbv, hle⟩ := hb.shape
  have HB := hid hb
  have HQ := hid hq
  rw [hbv] at HB ⊢
  clear hb hq hbv
  unfold maxLen at hle
  obtain ⟨RES, hRES⟩ : ∃ RES, RES = lightB s := ⟨_, rfl⟩
  rw [← hRES]
  have HR := hid hRES
  clear hRES
  generalize s.r = r
  generalize s.bare = bare
  go_enter Tryd.func6, Tryd.ntmps6
  go_wp2
  have HG0 := hid ((Gr.refl w).alloc (.cells #[.int .u8 r, .bool bare, .slice va s.bs.length vc] 24))
  have k2 : (w.alloc (.cells #[.int .u8 r, .bool bare, .slice va s.bs.length vc] 24)).cell? ⟨w.heap.size, 2, none⟩ = some (.slice va s.bs.length vc) := (Gr.refl _).boxed 2 rfl
  generalize w.alloc (.cells #[.int .u8 r, .bool bare, .slice va s.bs.length vc] 24) = W at HG0 k2 ⊢
  have K2 := hid k2
  clear k2
  go_loopw [4, 8] (fun _ vi wr => ∃ i : Nat, vi = .int .i64 i ∧ i ≤ s.bs.length ∧ Hid (Gr W wr) ∧ Hid (∀ b ∈ s.bs.take i, b.ls.length ≤ 10)) (fun _ vi _ => s.bs.length - (intOf vi).toNat)
  case atStart => exact ⟨0, rfl, Nat.zero_le _, Gr.refl _, fun b hb => by simp at hb⟩
  case round =>
    obtain ⟨i, rfl, hi, HGr, HN⟩ := hrel
    by_cases hlt : i < s.bs.length
    · obtain ⟨b, off, c', hv⟩ := (HB.out).ptr (Nat.zero_lt_of_lt hlt)
      cases hv
      obtain ⟨x, hx⟩ : ∃ x, s.bs[i]? = some x := ⟨s.bs[i], by simp [hlt]⟩
      obtain ⟨p0, p1, p2, p3, p4⟩ := lbk_at (HB.out.gr (HG0.out.trans HGr.out)) i hx
      obtain ⟨la, lc, hlv, hll⟩ := (HQ.out x (List.mem_of_getElem? hx)).l.shape
      rw [hlv] at p0
      unfold maxLen at hll
      have HX := hid hx
      clear hlv hx
      by_cases h10 : x.ls.length ≤ 10
      · have h10' : ¬ (10 : Int) < (x.ls.length : Int) := by omega
        have HH := hid h10
        clear h10
        generalize hnn : (x.ls.length : Int) = nn at h10' p0 ⊢
        go_wp2
        go_roundw
        case rel => exact ⟨i + 1, by go_num, by omega, HGr.out.alloc _, fun b hb => by
          obtain ⟨hi2, he⟩ := List.getElem?_eq_some_iff.1 HX.out
          rw [List.take_succ_eq_append_getElem hi2, List.mem_append] at hb
          rcases hb with hb | hb
          · exact HN.out b hb
          · simp at hb; subst hb; rw [he]; exact HH.out⟩
        case measure => simp [intOf]; omega
      · have h10' : (10 : Int) < (x.ls.length : Int) := by omega
        have HF : Hid (RES = false) := by
          show RES = false
          rw [HR.out]; unfold lightB
          apply decide_eq_false
          rintro ⟨h1, _⟩
          exact h10 (h1 x (List.mem_of_getElem? HX.out))
        clear h10
        go_wp2
        go_ret
        exact ⟨ret_bool HF.out.symm, HG0.out.trans (HGr.out.alloc _)⟩
    · obtain rfl : i = s.bs.length := by omega
      have k2 := HGr.out.val K2.out
      go_wp2
      go_ret
      exact ⟨ret_bool (by
        rw [HR.out]; unfold lightB
        have hall : ∀ b ∈ s.bs, b.ls.length ≤ 10 := by have := HN.out; rwa [List.take_length] at this
        rw [Bool.eq_iff_iff]
        simp only [decide_eq_true_eq]
        constructor
        · intro h; exact ⟨hall, by omega⟩
        · intro h; have := h.2; omega), HG0.out.trans HGr.out⟩
end Go.Proofs.YtkcblhaldahooaaDoor
