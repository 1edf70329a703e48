/- What a call of LexJoins' text comes to. -/
import Derived.Test.YtnflohejjgmlnaaDoorCelL
set_option linter.unusedSimpArgs false
set_option linter.unusedVariables false
namespace Go.Proofs.YtnflohejjgmlnaaDoor
open Go.RowKit Go.Sort

theorem below_cell {n : Nat} {w w' : World} (b : Below n w w') (hn : n = w.heap.size) {p : Addr} {u : Value} (h : w.cell? p = some u) : w'.cell? p = some u := by
  subst hn; exact (b.cell (cell_lt h)).trans h
/-- A text of tokens, not too long. -/
def JTextP (n : Nat) (w : World) (e : Ending) (w' : World) : Prop := ∃ l ws, e = .returned (.string (bytesOf l)) ∧ Toks l ws ∧ l.length ≤ 23 * n ∧ Below w.heap.size w w'
set_option maxRecDepth 100000 in
set_option maxHeartbeats 2000000 in
theorem jtext_any (ps : List PcM) (v : Value) (w : World) (h : PcsAt w v ps) (hw : ∀ p ∈ ps, PcWf p) (hn : ps.length ≤ 60) :
    Calls Tryd.prog 13 #[v] w fun e w' => JTextP ps.length w e w' := by
  obtain ⟨a, c, rfl, hml⟩ := h.shape
  have HP := hid h
  have HW := hid hw
  clear h hw
  go_enter Tryd.func13, Tryd.ntmps13
  go_wp2_with fail
  go_loopw [3, 10] (fun v3 v10 wr => ∃ (k : Nat) (l : List UInt8) (ws : List Ev), v3 = .string (bytesOf l) ∧ v10 = .int .i64 k ∧ k ≤ ps.length ∧ (bytesOf l).size ≤ 23 * k ∧ Hid (Toks l ws) ∧ Hid (Below w.heap.size w wr)) (fun _ v10 _ => ps.length - (intOf v10).toNat)
  case atStart => exact ⟨0, [], [], rfl, rfl, Nat.zero_le _, by decide, Toks.nil, Below.refl _ _⟩
  case round =>
    obtain ⟨k, l, ws, rfl, rfl, hk, hl, HT, HB⟩ := hrel
    by_cases hlt : k < ps.length
    · obtain ⟨b, o, c2, he⟩ := HP.out.ptr (by omega)
      obtain ⟨rfl, rfl⟩ : a = some ⟨b, o, none⟩ ∧ c = c2 := by cases he; exact ⟨rfl, rfl⟩
      have hx : ps[k]? = some ps[k] := List.getElem?_eq_getElem hlt
      obtain ⟨q0, q1, q2⟩ := HP.out.at hx
      have hwf := HW.out _ (List.getElem_mem hlt)
      generalize ps[k] = x at *
      have c0 := below_cell HB.out rfl q0
      have c1 := below_cell HB.out rfl q1
      have c2 := below_cell HB.out rfl q2
      have hlt2 : (k : Int) < (ps.length : Int) := by omega
      have TK := hid (fun W => ltoken_any x.k x.g x.n hwf.k.1 hwf.k.2 hwf.n.1 hwf.n.2 W)
      clear q0 q1 q2 hx he hwf
      go_wp2_with fail
      refine (TK.out _).mono ?_
      rintro e w2 ⟨x', kk, t, m, rfl, hpr, bl⟩
      have HPR := hid hpr
      have BL := hid (HB.out.trans (((Below.refl _ wr).alloc (Nat.le_refl _) _).mono HB.out.size |>.trans (bl.mono (by simp; have := HB.out.size; omega))))
      have hxl : (bytesOf x').size ≤ 22 := by rw [bytes_size]; exact hpr.2
      have z1 : (⟨#[32]⟩ : ByteArray).size = 1 := rfl
      have z2 : (bytesOf x').size + (⟨#[32]⟩ : ByteArray).size ≤ 9223372036854775807 := by omega
      have z4 : (bytesOf x' ++ ⟨#[32]⟩).size = (bytesOf x').size + 1 := by rw [ByteArray.size_append]; rfl
      have z5 : (bytesOf l).size + (bytesOf x' ++ ⟨#[32]⟩).size ≤ 9223372036854775807 := by omega
      clear bl hpr TK
      simp only [tokA]
      go_wp2_with fail
      go_roundw
      case rel => exact ⟨k + 1, l ++ (x' ++ [32]), _, by rw [← bytes_app, ← bytes_app]; rfl, rfl, by omega, by rw [← bytes_app, ByteArray.size_append, ← bytes_app, ByteArray.size_append]; simp only [bytes_size, List.length_singleton] at *; omega, HT.out.app (toks_piece HPR.out), (BL.out.alloc BL.out.size _)⟩
      case measure => simp [intOf]; omega
    · obtain rfl : k = ps.length := by omega
      have hlt2 : ¬ (ps.length : Int) < (ps.length : Int) := by omega
      go_wp2_with fail
      go_ret
      exact ⟨l, ws, rfl, HT.out, by rw [← bytes_size]; exact hl, HB.out⟩
end Go.Proofs.YtnflohejjgmlnaaDoor
