
/- ShowAny: what is told of its texts. -/
import Derived.Test.YtmikkacillfdeaaGreatDoorShk
import Derived.Test.YtmikkacillfdeaaGreatDoorJp
set_option linter.unusedSimpArgs false
set_option linter.unusedVariables false
namespace Go.Proofs.YtmikkacillfdeaaGreatDoor
open Go.RowKit Go.Sort

/-- A program whose print is read as the program. -/
structure ShP (P : List ABlk) : Prop where
  b : ∀ b ∈ P, BlkW b
  ne : P ≠ []
  l : (txP P).length ≤ 2500
  z : (bytesOf (prPA P)).size ≤ 1000000
  r : parseR (bytesOf (prPA P)) = (P, 0, 0)
theorem checkA_ne {P : List ABlk} (h : checkA P = 0) : P ≠ [] := by
  intro e
  subst e
  simp [checkA, checkE] at h
theorem shP_of {P : List ABlk} (hb : ∀ b ∈ P, BlkP' b) (hc : checkA P = 0) (hl : (txP P).length ≤ 2500) : ShP P := by
  have hw : ∀ b ∈ P, BlkW b := fun b h => blkP_w (hb b h)
  have h1 := prPA_len hw
  exact ⟨hw, checkA_ne hc, hl, by rw [bytes_size]; omega, print_reads hb hc (by omega)⟩
/-- A text: it is read, and its program's print is read; or it isn't read. -/
structure ShOk (s : ByteArray) : Prop where
  n : s.size ≤ 1000000
  r : (∃ P, parseR s = (P, 0, 0) ∧ ShP P) ∨ ∃ pl er, parseR s = ([], pl, er) ∧ er ≠ 0
theorem shOk_few {s : ByteArray} (hn : s.size ≤ 1000000) (he : (evsAll s).length ≤ 2500) : ShOk s := by
  have ht := parse_told s
  refine ⟨hn, ?_⟩
  by_cases h0 : (parseR s).2.2 = 0
  · obtain ⟨h1, h2, h3, h4, h5⟩ := ht.1 h0
    have hr : parseR s = ((parseR s).1, 0, 0) := Prod.ext rfl (Prod.ext h1 h0)
    exact .inl ⟨_, hr, shP_of h3 h2 (by omega)⟩
  · obtain ⟨h1, h2⟩ := ht.2 h0
    exact .inr ⟨_, _, by rw [← h1], h0⟩
theorem shOk_raw {s : ByteArray} (h : s.size ≤ 300) : ShOk s := shOk_few (by omega) (by have := evs_len s; omega)
theorem shOk_text {s : SmlM} (hl : lightB s = true) (hw : LinsWf s) (g : List Int) : ShOk (bytesOf (txG g 0 (txP (progA s)))) := by
  have h1 := progA_reads hl hw g false
  have h2 := progA_txt hl hw g false
  rw [show cutT false (txP (progA s)) = txP (progA s) from rfl] at h1 h2
  exact ⟨by rw [bytes_size]; omega, .inl ⟨_, h1, shP_of (progA_p hl hw) (progA_check hl) (by have := progA_len hl; omega)⟩⟩
theorem PW.gapsL {l : List (List UInt8)} {ks : List Tk} (h : PW l ks) (g : List Int) : ∀ i, ∃ m, RdK (txG g i l) m ∧ m.length ≤ 2 * l.length := by
  induction h with
  | nil => exact fun i => ⟨[], RdK.nil, by simp⟩
  | cons h _ ih =>
    intro i
    obtain ⟨m, h1, h2⟩ := ih (i + 1)
    rcases rd_pc h (gapK g i) with q | ⟨rfl, q⟩
    · exact ⟨_, q.app h1, by simp; omega⟩
    · exact ⟨_, q.app h1, by simp; omega⟩
theorem shOk_cut {l : List (List UInt8)} (h : Toky l) (hl : l.length ≤ 1000) (g : List Int) : ShOk (bytesOf (txG g 0 l) ++ ⟨#[116, 114, 97, 112]⟩) := by
  obtain ⟨⟨ks, h1⟩, h2⟩ := h
  obtain ⟨m, ⟨ws, r1, r2⟩, hm⟩ := h1.gapsL g 0
  have h3 := txG_len g (l := l) 0 h2
  have e : bytesOf (txG g 0 l) ++ ⟨#[116, 114, 97, 112]⟩ = bytesOf (txG g 0 l ++ lTrap) := by rw [show (⟨#[116, 114, 97, 112]⟩ : ByteArray) = bytesOf lTrap from rfl, bytes_app]
  rw [e]
  have hlt : lTrap.length = 4 := rfl
  have hn : (txG g 0 l ++ lTrap).length ≤ 100000 := by rw [List.length_append]; omega
  refine shOk_few (by rw [bytes_size]; omega) ?_
  have h4 := evT_word (0 + (txG g 0 l).length) lTrap [] (by decide) (by decide) (fun c hc => by simp at hc)
  have he : evT 0 (txG g 0 l ++ lTrap) = ws.map (Ev.sh 0) ++ [⟨1, 0 + (txG g 0 l).length, lTrap, 0, 0⟩, ⟨0, 0 + (txG g 0 l).length + lTrap.length, [], 0, 0⟩] := by
    rw [r1.1 0 lTrap, show lTrap = lTrap ++ [] by simp, h4]
    rfl
  rw [evsAll_list _ hn, he]
  have : ws.length = m.length := by rw [← r2]; simp
  simp
  omega
end Go.Proofs.YtmikkacillfdeaaGreatDoor
