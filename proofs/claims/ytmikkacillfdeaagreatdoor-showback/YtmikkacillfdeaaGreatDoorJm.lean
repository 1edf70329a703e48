/- Joined: Psm, Prw. -/
import Derived.Test.YtmikkacillfdeaaGreatDoorJg
import Derived.Test.YtmikkacillfdeaaGreatDoorJk


/- The laws' small programs: their texts are read as the programs. -/
set_option linter.unusedSimpArgs false
set_option linter.unusedVariables false
namespace Go.Proofs.YtmikkacillfdeaaGreatDoor
open Go.RowKit Go.Sort

/-- The lines that came in are numbers of their kinds. -/
def LinsWf (s : SmlM) : Prop := ∀ b ∈ s.bs, ∀ y ∈ b.ls, LinWf y
theorem SmlOk.lins {w : World} {s : SmlM} (h : SmlOk w s) : LinsWf s := fun b hb y hy => (h.q b hb).w y hy
theorem light_of {s : SmlM} (h : lightB s = true) : s.bs.length ≤ 8 ∧ ∀ b ∈ s.bs, b.ls.length ≤ 10 := by
  have h2 : (∀ b ∈ s.bs, b.ls.length ≤ 10) ∧ s.bs.length ≤ 8 := by simpa [lightB] using h
  exact ⟨h2.2, h2.1⟩
theorem lineA_ow {r : Int} {x : LinM} (h : LinWf x) : 0 ≤ (lineA r x).o ∧ W64 (lineA r x).n := by
  have hn := h.n
  refine ⟨(io_in (x.k % 9) 0 (x := x.o % 12) (m := 12) (by omega) (by omega)).1, ?_⟩
  show W64 (io (x.k % 9) 4 x.n)
  unfold io W64
  split <;> omega
theorem setsA_ow (s : SmlM) (i : Nat) : ∀ x ∈ setsA s i, 0 ≤ x.o ∧ W64 x.n := by
  intro x hx
  have hr := regs_in s
  unfold setsA at hx
  split at hx
  · obtain ⟨r, h1, rfl⟩ := List.mem_map.1 hx
    have h2 := List.mem_range.1 h1
    have hc : r = 0 ∨ r = 1 ∨ r = 2 ∨ r = 3 ∨ r = 4 ∨ r = 5 := by omega
    rcases hc with rfl | rfl | rfl | rfl | rfl | rfl <;> (unfold setA W64; decide)
  · simp at hx
theorem blkA_ow {s : SmlM} (h : LinsWf s) (i : Nat) : ∀ x ∈ (blkA s i).ins, 0 ≤ x.o ∧ W64 x.n := by
  intro x hx
  unfold blkA at hx
  split at hx
  · rename_i b hb
    rcases List.mem_append.1 hx with hx | hx
    · exact setsA_ow s i x hx
    · obtain ⟨y, hy, rfl⟩ := List.mem_map.1 hx
      exact lineA_ow (h b (List.mem_of_getElem? hb) y hy)
  · exact setsA_ow s i x hx
theorem blkA_lab (s : SmlM) (i : Nat) : (blkA s i).lab = labV i := by unfold blkA; split <;> rfl
theorem blkA_e (s : SmlM) (i : Nat) : 0 ≤ (blkA s i).e := by
  unfold blkA
  split
  · exact (endT_in _).1
  · show 0 ≤ (if s.bare = true then (3 : Int) else 2)
    split <;> omega
theorem blkA_p {s : SmlM} (h8 : s.bs.length ≤ 8) (hL : ∀ b ∈ s.bs, b.ls.length ≤ 10) (hw : LinsWf s) (i : Nat) (hi : i < lenM s) : BlkP' (blkA s i) := by
  have G := blk_good s h8 hL i hi
  have hl := lastV_of G.l (blkA_e s i) (fun x hx => progL_small h8 hx)
  refine ⟨?_, fun x hx => insP_of (G.i x hx).1 (G.i x hx).2 (blkA_ow hw i x hx).1 (blkA_ow hw i x hx).2, hl.1, hl.2⟩
  rw [blkA_lab]
  exact progL_small h8 (mem_progL hi)
theorem progA_p {s : SmlM} (hl : lightB s = true) (hw : LinsWf s) : ∀ b ∈ progA s, BlkP' b := fun b hb => by
  obtain ⟨h8, hL⟩ := light_of hl
  obtain ⟨i, hi, rfl⟩ := List.mem_map.1 hb
  exact blkA_p h8 hL hw i (List.mem_range.1 hi)
theorem progA_ne (s : SmlM) : progA s ≠ [] := fun h => by
  have := congrArg List.length h
  have hl : 1 ≤ lenM s := by unfold lenM; omega
  simp [progA] at this
  omega
theorem progA_check {s : SmlM} (hl : lightB s = true) : checkA (progA s) = 0 := by
  obtain ⟨h8, hL⟩ := light_of hl
  unfold checkA
  refine (prog1 h8 hL ?_ ?_).ok h8
  · rw [List.map_map]
    exact List.map_id'' (fun _ => rfl) _
  · intro B hB
    obtain ⟨b, _, rfl⟩ := List.mem_map.1 hB
    rfl
theorem txP_len : ∀ {P : List ABlk}, (∀ b ∈ P, b.ins.length ≤ 16) → (txP P).length ≤ 122 * P.length
  | [], _ => by simp [txP]
  | b :: r, h => by
    have h1 := txB_len b
    have h2 := h b (by simp)
    have h3 := txP_len (P := r) (fun x hx => h x (by simp [hx]))
    rw [show txP (b :: r) = txB b ++ txP r by simp [txP], List.length_append, List.length_cons]
    omega
theorem progA_len {s : SmlM} (hl : lightB s = true) : (txP (progA s)).length ≤ 976 := by
  obtain ⟨h8, hL⟩ := light_of hl
  have h1 := txP_len (P := progA s) (fun b hb => by
    obtain ⟨i, hi, rfl⟩ := List.mem_map.1 hb
    exact (blk_good s h8 hL i (List.mem_range.1 hi)).m)
  have h2 : (progA s).length ≤ 8 := by have := len_in s h8; simp [progA]; omega
  omega
theorem cutT_sub {cut : Bool} {l : List (List UInt8)} {x : List UInt8} (h : x ∈ cutT cut l) : x ∈ l := by
  unfold cutT at h
  split at h
  · exact List.dropLast_subset _ h
  · exact h
theorem cutT_len (cut : Bool) (l : List (List UInt8)) : (cutT cut l).length ≤ l.length := by
  unfold cutT
  split
  · rw [List.length_dropLast]; omega
  · omega
theorem progA_64 {s : SmlM} (hl : lightB s = true) (hw : LinsWf s) : ∀ b ∈ progA s, Blk64 b := fun b hb => blk_64 (progA_p hl hw b hb)
theorem progA_txt {s : SmlM} (hl : lightB s = true) (hw : LinsWf s) (g : List Int) (cut : Bool) : (txG g 0 (cutT cut (txP (progA s)))).length ≤ 100000 := by
  have h1 := txG_len g (l := cutT cut (txP (progA s))) 0 (fun x hx => txP_tok (progA_64 hl hw) x (cutT_sub hx))
  have h2 := cutT_len cut (txP (progA s))
  have h3 := progA_len hl
  omega
theorem progA_reads {s : SmlM} (hl : lightB s = true) (hw : LinsWf s) (g : List Int) (cut : Bool) : parseR (bytesOf (txG g 0 (cutT cut (txP (progA s))))) = (progA s, 0, 0) :=
  text_reads_gap (progA_ne s) (progA_p hl hw) (progA_check hl) g cut (progA_txt hl hw g cut)
/-- The last one cut off. -/
theorem SS.cut {n : Nat} {W : World} {va : Option Addr} {m c : Nat} {l : List (List UInt8)} (h : SS n (.slice va m c) l W) (hl : 0 < l.length) : SS n (.slice va (m - 1) c) l.dropLast W := by
  obtain ⟨⟨h0, ⟨h1, h2⟩ | ⟨b, off, cap, cur, h1, h2, h3, h4, h5, h6⟩⟩, ho⟩ := h
  · omega
  · cases h1
    refine ⟨⟨?_, .inr ⟨b, off, _, cur, ?_, h2, ?_, h4, h5, fun j hj => ?_⟩⟩, ho⟩
    · simp [svs]
    · rw [List.length_dropLast]
    · rw [List.length_dropLast]; omega
    · have hj2 : j < l.length - 1 := by simpa [svs] using hj
      rw [h6 j (by simp [svs]; omega)]
      simp only [svs, List.getElem?_map]
      rw [List.getElem?_dropLast, if_pos hj2]
end Go.Proofs.YtmikkacillfdeaaGreatDoor


/- ParseReads: the walk. -/
set_option linter.unusedSimpArgs false
set_option linter.unusedVariables false
namespace Go.Proofs.YtmikkacillfdeaaGreatDoor
open Go.RowKit Go.Sort

theorem SS.shapeC {n : Nat} {W : World} {v : Value} {l : List (List UInt8)} (h : SS n v l W) : ∃ a c, v = .slice a l.length c ∧ l.length ≤ c ∧ c ≤ maxLen := by
  obtain ⟨⟨h0, ⟨rfl, h2⟩ | ⟨b, off, cap, cur, rfl, h1, h2, h3, _⟩⟩, _⟩ := h
  · exact ⟨none, 0, by rw [h2], by omega, by unfold maxLen; omega⟩
  · exact ⟨_, _, rfl, h2, h3⟩
theorem txP_pos {P : List ABlk} (h : P ≠ []) : 0 < (txP P).length := by
  cases P with
  | nil => exact absurd rfl h
  | cons b r => rw [show txP (b :: r) = txB b ++ txP r by simp [txP], List.length_append]; unfold txB; simp only [List.length_append, List.length_cons]; omega
theorem CelL.tch {w w' : World} {sz n : Nat} {v : Value} {cs : List Value} (h : CelL w sz v n cs) (t : Tch [] w w') : CelL w' sz v n cs := h.below (t.below (Nat.le_refl _) (by simp))
theorem Cel.tch {w w' : World} {sz n : Nat} {v : Value} {cs : List Value} (h : Cel w sz v n cs) (t : Tch [] w w') : Cel w' sz v n cs := by
  obtain ⟨h0, a, c, h1, h2, h3⟩ := h
  refine ⟨h0, a, c, h1, h2, h3.imp id ?_⟩
  rintro ⟨b, off, h4, h5⟩
  exact ⟨b, off, h4, fun j u hj => t.cellk (h5 j u hj)⟩
theorem SmlOk.tch {w w' : World} {x : SmlM} (h : SmlOk w x) (t : Tch [] w w') : SmlOk w' x :=
  ⟨h.r, h.b.tch t, fun y hy => ⟨(h.q y hy).l.tch t, (h.q y hy).w, (h.q y hy).e, (h.q y hy).a, (h.q y hy).y, (h.q y hy).n⟩⟩
end Go.Proofs.YtmikkacillfdeaaGreatDoor

