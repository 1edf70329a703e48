/- Joined: Psm, Prw, Psi, Pgw. -/
import Derived.Test.YtbdjpmmbnlmkhaaDoorJg
import Derived.Test.YtbdjpmmbnlmkhaaDoorJk
import Derived.Test.YtbdjpmmbnlmkhaaDoorJa


/- The laws' small programs: their texts are read as the programs. -/
set_option linter.unusedSimpArgs false
set_option linter.unusedVariables false
namespace Go.Proofs.YtbdjpmmbnlmkhaaDoor
open Go.RowKit Go.Sort

/-- The lines that came in are numbers of their kinds. -/
def LinsWf (s : SmlM) : Prop := ∀ b ∈ s.bs, ∀ y ∈ b.ls, LinWf y
theorem SmlOk.lins {w : World} {s : SmlM} (h : SmlOk w s) : LinsWf s := fun b hb y hy => (h.q b hb).w y hy
theorem light_of {s : SmlM} (h : lightB s = true) : s.bs.length ≤ 8 ∧ ∀ b ∈ s.bs, b.ls.length ≤ 10 := by
  have h2 : (∀ b ∈ s.bs, b.ls.length ≤ 10) ∧ s.bs.length ≤ 8 := by simpa [lightB] using h
  exact ⟨h2.2, h2.1⟩
theorem lineA_ow {r : Int} {x : LinM} (h : LinWf x) : 0 ≤ (lineA r x).o ∧ W64 (lineA r x).n := by
  have hn := h.n
  refine ⟨(io_in (x.k % 9) 0 (x := x.o % 12) (m := 12) (by omega) (by omega)).1, ?_⟩
  show W64 (io (x.k % 9) 4 x.n)
  unfold io W64
  split <;> omega
theorem setsA_ow (s : SmlM) (i : Nat) : ∀ x ∈ setsA s i, 0 ≤ x.o ∧ W64 x.n := by
  intro x hx
  have hr := regs_in s
  unfold setsA at hx
  split at hx
  · obtain ⟨r, h1, rfl⟩ := List.mem_map.1 hx
    have h2 := List.mem_range.1 h1
    have hc : r = 0 ∨ r = 1 ∨ r = 2 ∨ r = 3 ∨ r = 4 ∨ r = 5 := by omega
    rcases hc with rfl | rfl | rfl | rfl | rfl | rfl <;> (unfold setA W64; decide)
  · simp at hx
theorem blkA_ow {s : SmlM} (h : LinsWf s) (i : Nat) : ∀ x ∈ (blkA s i).ins, 0 ≤ x.o ∧ W64 x.n := by
  intro x hx
  unfold blkA at hx
  split at hx
  · rename_i b hb
    rcases List.mem_append.1 hx with hx | hx
    · exact setsA_ow s i x hx
    · obtain ⟨y, hy, rfl⟩ := List.mem_map.1 hx
      exact lineA_ow (h b (List.mem_of_getElem? hb) y hy)
  · exact setsA_ow s i x hx
theorem blkA_lab (s : SmlM) (i : Nat) : (blkA s i).lab = labV i := by unfold blkA; split <;> rfl
theorem blkA_e (s : SmlM) (i : Nat) : 0 ≤ (blkA s i).e := by
  unfold blkA
  split
  · exact (endT_in _).1
  · show 0 ≤ (if s.bare = true then (3 : Int) else 2)
    split <;> omega
theorem blkA_p {s : SmlM} (h8 : s.bs.length ≤ 8) (hL : ∀ b ∈ s.bs, b.ls.length ≤ 10) (hw : LinsWf s) (i : Nat) (hi : i < lenM s) : BlkP' (blkA s i) := by
  have G := blk_good s h8 hL i hi
  have hl := lastV_of G.l (blkA_e s i) (fun x hx => progL_small h8 hx)
  refine ⟨?_, fun x hx => insP_of (G.i x hx).1 (G.i x hx).2 (blkA_ow hw i x hx).1 (blkA_ow hw i x hx).2, hl.1, hl.2⟩
  rw [blkA_lab]
  exact progL_small h8 (mem_progL hi)
theorem progA_p {s : SmlM} (hl : lightB s = true) (hw : LinsWf s) : ∀ b ∈ progA s, BlkP' b := fun b hb => by
  obtain ⟨h8, hL⟩ := light_of hl
  obtain ⟨i, hi, rfl⟩ := List.mem_map.1 hb
  exact blkA_p h8 hL hw i (List.mem_range.1 hi)
theorem progA_ne (s : SmlM) : progA s ≠ [] := fun h => by
  have := congrArg List.length h
  have hl : 1 ≤ lenM s := by unfold lenM; omega
  simp [progA] at this
  omega
theorem progA_check {s : SmlM} (hl : lightB s = true) : checkA (progA s) = 0 := by
  obtain ⟨h8, hL⟩ := light_of hl
  unfold checkA
  refine (prog1 h8 hL ?_ ?_).ok h8
  · rw [List.map_map]
    exact List.map_id'' (fun _ => rfl) _
  · intro B hB
    obtain ⟨b, _, rfl⟩ := List.mem_map.1 hB
    rfl
theorem txP_len : ∀ {P : List ABlk}, (∀ b ∈ P, b.ins.length ≤ 16) → (txP P).length ≤ 122 * P.length
  | [], _ => by simp [txP]
  | b :: r, h => by
    have h1 := txB_len b
    have h2 := h b (by simp)
    have h3 := txP_len (P := r) (fun x hx => h x (by simp [hx]))
    rw [show txP (b :: r) = txB b ++ txP r by simp [txP], List.length_append, List.length_cons]
    omega
theorem progA_len {s : SmlM} (hl : lightB s = true) : (txP (progA s)).length ≤ 976 := by
  obtain ⟨h8, hL⟩ := light_of hl
  have h1 := txP_len (P := progA s) (fun b hb => by
    obtain ⟨i, hi, rfl⟩ := List.mem_map.1 hb
    exact (blk_good s h8 hL i (List.mem_range.1 hi)).m)
  have h2 : (progA s).length ≤ 8 := by have := len_in s h8; simp [progA]; omega
  omega
theorem cutT_sub {cut : Bool} {l : List (List UInt8)} {x : List UInt8} (h : x ∈ cutT cut l) : x ∈ l := by
  unfold cutT at h
  split at h
  · exact List.dropLast_subset _ h
  · exact h
theorem cutT_len (cut : Bool) (l : List (List UInt8)) : (cutT cut l).length ≤ l.length := by
  unfold cutT
  split
  · rw [List.length_dropLast]; omega
  · omega
theorem progA_64 {s : SmlM} (hl : lightB s = true) (hw : LinsWf s) : ∀ b ∈ progA s, Blk64 b := fun b hb => blk_64 (progA_p hl hw b hb)
theorem progA_txt {s : SmlM} (hl : lightB s = true) (hw : LinsWf s) (g : List Int) (cut : Bool) : (txG g 0 (cutT cut (txP (progA s)))).length ≤ 100000 := by
  have h1 := txG_len g (l := cutT cut (txP (progA s))) 0 (fun x hx => txP_tok (progA_64 hl hw) x (cutT_sub hx))
  have h2 := cutT_len cut (txP (progA s))
  have h3 := progA_len hl
  omega
theorem progA_reads {s : SmlM} (hl : lightB s = true) (hw : LinsWf s) (g : List Int) (cut : Bool) : parseR (bytesOf (txG g 0 (cutT cut (txP (progA s))))) = (progA s, 0, 0) :=
  text_reads_gap (progA_ne s) (progA_p hl hw) (progA_check hl) g cut (progA_txt hl hw g cut)
/-- The last one cut off. -/
theorem SS.cut {n : Nat} {W : World} {va : Option Addr} {m c : Nat} {l : List (List UInt8)} (h : SS n (.slice va m c) l W) (hl : 0 < l.length) : SS n (.slice va (m - 1) c) l.dropLast W := by
  obtain ⟨⟨h0, ⟨h1, h2⟩ | ⟨b, off, cap, cur, h1, h2, h3, h4, h5, h6⟩⟩, ho⟩ := h
  · omega
  · cases h1
    refine ⟨⟨?_, .inr ⟨b, off, _, cur, ?_, h2, ?_, h4, h5, fun j hj => ?_⟩⟩, ho⟩
    · simp [svs]
    · rw [List.length_dropLast]
    · rw [List.length_dropLast]; omega
    · have hj2 : j < l.length - 1 := by simpa [svs] using hj
      rw [h6 j (by simp [svs]; omega)]
      simp only [svs, List.getElem?_map]
      rw [List.getElem?_dropLast, if_pos hj2]
end Go.Proofs.YtbdjpmmbnlmkhaaDoor


/- ParseReads: the walk. -/
set_option linter.unusedSimpArgs false
set_option linter.unusedVariables false
namespace Go.Proofs.YtbdjpmmbnlmkhaaDoor
open Go.RowKit Go.Sort

theorem SS.shapeC {n : Nat} {W : World} {v : Value} {l : List (List UInt8)} (h : SS n v l W) : ∃ a c, v = .slice a l.length c ∧ l.length ≤ c ∧ c ≤ maxLen := by
  obtain ⟨⟨h0, ⟨rfl, h2⟩ | ⟨b, off, cap, cur, rfl, h1, h2, h3, _⟩⟩, _⟩ := h
  · exact ⟨none, 0, by rw [h2], by omega, by unfold maxLen; omega⟩
  · exact ⟨_, _, rfl, h2, h3⟩
theorem txP_pos {P : List ABlk} (h : P ≠ []) : 0 < (txP P).length := by
  cases P with
  | nil => exact absurd rfl h
  | cons b r => rw [show txP (b :: r) = txB b ++ txP r by simp [txP], List.length_append]; unfold txB; simp only [List.length_append, List.length_cons]; omega
theorem CelL.tch {w w' : World} {sz n : Nat} {v : Value} {cs : List Value} (h : CelL w sz v n cs) (t : Tch [] w w') : CelL w' sz v n cs := h.below (t.below (Nat.le_refl _) (by simp))
theorem Cel.tch {w w' : World} {sz n : Nat} {v : Value} {cs : List Value} (h : Cel w sz v n cs) (t : Tch [] w w') : Cel w' sz v n cs := by
  obtain ⟨h0, a, c, h1, h2, h3⟩ := h
  refine ⟨h0, a, c, h1, h2, h3.imp id ?_⟩
  rintro ⟨b, off, h4, h5⟩
  exact ⟨b, off, h4, fun j u hj => t.cellk (h5 j u hj)⟩
theorem SmlOk.tch {w w' : World} {x : SmlM} (h : SmlOk w x) (t : Tch [] w w') : SmlOk w' x :=
  ⟨h.r, h.b.tch t, fun y hy => ⟨(h.q y hy).l.tch t, (h.q y hy).w, (h.q y hy).e, (h.q y hy).a, (h.q y hy).y, (h.q y hy).n⟩⟩
end Go.Proofs.YtbdjpmmbnlmkhaaDoor


/- Two lists of tokens that differ in ends of lines that stand twice alone are read alike. -/
set_option linter.unusedSimpArgs false
set_option linter.unusedVariables false
namespace Go.Proofs.YtbdjpmmbnlmkhaaDoor
open Go.RowKit Go.Sort

/-- What comes. -/
def strm (ts : List Ev) (st : RS) : List Tk := (ts.drop st.nx).map Ev.tk
theorem strm_cons {ts : List Ev} {st : RS} {x : Tk} {m : List Tk} (h : strm ts st = x :: m) : (curE ts st).tk = x ∧ strm ts st.on = m ∧ st.nx < ts.length := by
  unfold strm at h
  have hlt : st.nx < ts.length := by
    apply Classical.byContradiction
    intro hn
    rw [List.drop_of_length_le (by omega)] at h
    cases h
  rw [List.drop_eq_getElem_cons hlt, List.map_cons] at h
  obtain ⟨e1, e2⟩ := List.cons.inj h
  have hc : curE ts st = ts[st.nx] := by unfold curE; rw [List.getElem?_eq_getElem hlt]; rfl
  exact ⟨by rw [hc]; exact e1, e2, hlt⟩
theorem strm_nil {ts : List Ev} {st : RS} (h : strm ts st = []) : (curE ts st).tk = ⟨0, [], 0⟩ ∧ strm ts st.on = [] := by
  unfold strm at h
  have hn : ts.length ≤ st.nx := by
    apply Classical.byContradiction
    intro hn
    rw [List.drop_eq_getElem_cons (by omega)] at h
    cases h
  refine ⟨?_, ?_⟩
  · unfold curE
    rw [List.getElem?_eq_none (by omega)]
    rfl
  · unfold strm RS.on
    rw [List.drop_of_length_le (by show ts.length ≤ st.nx + 1; omega)]
    rfl
theorem Spr.nil' {m : List Tk} (h : Spr [] m) : m = [] := by cases h; rfl
theorem Spr.cons' {x : Tk} {l m : List Tk} (h : Spr (x :: l) m) (hx : x ≠ kNl) : ∃ m', m = x :: m' ∧ Spr l m' := by
  cases h with
  | one _ h => exact ⟨_, rfl, h⟩
  | two h => exact absurd rfl hx
/-- Two readers of one mind: the same fault or none; what comes is the same, but for ends of lines that stand twice. -/
structure Rl (ts us : List Ev) (a b : RS) : Prop where
  e : a.er = b.er
  s : ∃ l, Spr l (strm ts a) ∧ Spr l (strm us b)
theorem Rl.cur {ts us : List Ev} {a b : RS} (h : Rl ts us a b) : (curE ts a).tk = (curE us b).tk := by
  obtain ⟨l, h1, h2⟩ := h.s
  cases l with
  | nil => rw [(strm_nil h1.nil').1, (strm_nil h2.nil').1]
  | cons x l =>
    have q : ∀ {vs : List Ev} {c : RS}, Spr (x :: l) (strm vs c) → (curE vs c).tk = x := fun {vs c} h => by
      generalize e : strm vs c = m at h
      cases h with
      | one _ h => exact (strm_cons e).1
      | two h => exact (strm_cons e).1
    rw [q h1, q h2]
theorem Rl.k {ts us : List Ev} {a b : RS} (h : Rl ts us a b) : (curE us b).k = (curE ts a).k := (congrArg Tk.k h.cur).symm
theorem Rl.t {ts us : List Ev} {a b : RS} (h : Rl ts us a b) : (curE us b).t = (curE ts a).t := (congrArg Tk.t h.cur).symm
theorem Rl.n {ts us : List Ev} {a b : RS} (h : Rl ts us a b) : (curE us b).n = (curE ts a).n := (congrArg Tk.n h.cur).symm
theorem Rl.on {ts us : List Ev} {a b : RS} (h : Rl ts us a b) (hx : (curE ts a).tk ≠ kNl) : Rl ts us a.on b.on := by
  refine ⟨h.e, ?_⟩
  obtain ⟨l, h1, h2⟩ := h.s
  cases l with
  | nil => exact ⟨[], by rw [(strm_nil h1.nil').2]; exact .nil, by rw [(strm_nil h2.nil').2]; exact .nil⟩
  | cons x l =>
    have hx' : x ≠ kNl := fun e => by
      subst e
      generalize e : strm ts a = m at h1
      cases h1 with
      | one _ h => exact hx (strm_cons e).1
      | two h => exact hx (strm_cons e).1
    obtain ⟨m1, e1, g1⟩ := h1.cons' hx'
    obtain ⟨m2, e2, g2⟩ := h2.cons' hx'
    exact ⟨l, by rw [(strm_cons e1).2.1]; exact g1, by rw [(strm_cons e2).2.1]; exact g2⟩
/-- The last token is the text's end. -/
def LastE (ts : List Ev) : Prop := ∃ pre, ts.map Ev.tk = pre ++ [kE]
theorem LastE.strm {ts : List Ev} (h : LastE ts) (p e : Int) : strm ts ⟨ts.length - 1, p, e⟩ = [kE] := by
  obtain ⟨pre, h⟩ := h
  have hl : ts.length = pre.length + 1 := by have := congrArg List.length h; simpa using this
  unfold Go.Proofs.YtbdjpmmbnlmkhaaDoor.strm
  rw [List.map_drop, h]
  show List.drop (ts.length - 1) _ = _
  rw [hl]
  simp
theorem great_eq {x y : Ev} (h : x.tk = y.tk) : greatT x = greatT y := by
  have h1 : x.k = y.k := congrArg Tk.k h
  have h2 : x.n = y.n := congrArg Tk.n h
  unfold greatT
  rw [h1, h2]
theorem Rl.fail {ts us : List Ev} {a b : RS} (ht : LastE ts) (hu : LastE us) (h : Rl ts us a b) {x y : Ev} (hx : x.tk = y.tk) : Rl ts us (failS ts x a) (failS us y b) := by
  unfold failS
  by_cases he : a.er = 0
  · have he2 : b.er = 0 := h.e.symm.trans he
    rw [if_pos he, if_pos he2, great_eq hx]
    refine ⟨rfl, [kE], ?_, ?_⟩
    · rw [ht.strm]; exact Spr.refl _
    · rw [hu.strm]; exact Spr.refl _
  · have he2 : ¬ b.er = 0 := fun e => he (h.e.trans e)
    rw [if_neg he, if_neg he2]
    exact h
theorem Rl.take {ts us : List Ev} {a b : RS} (ht : LastE ts) (hu : LastE us) (h : Rl ts us a b) (k : Int) (hk : k ≠ 7) : tkV k us b = tkV k ts a ∧ Rl ts us (tkS k ts a) (tkS k us b) := by
  have ho : takeOk k (curE us b) = takeOk k (curE ts a) := by unfold takeOk; rw [h.k, great_eq h.cur.symm]
  unfold tkV tkS takeV takeS
  rw [ho, h.n]
  refine ⟨rfl, ?_⟩
  by_cases hc : takeOk k (curE ts a) = true
  · rw [if_pos hc, if_pos hc]
    have hk' : (curE ts a).k = k := by unfold takeOk at hc; simp at hc; exact hc.1
    exact h.on fun e => hk (hk'.symm.trans (congrArg Tk.k e))
  · rw [if_neg hc, if_neg hc]
    exact h.fail ht hu h.cur
theorem Rl.has {ts us : List Ev} {a b : RS} (h : Rl ts us a b) (s : ByteArray) : hasB s us b = hasB s ts a := by unfold hasB; rw [h.t]
theorem Rl.onh {ts us : List Ev} {a b : RS} (h : Rl ts us a b) {s : ByteArray} (hs : s.size ≠ 0) (hb : hasB s ts a = true) : Rl ts us a.on b.on :=
  h.on fun e => has_text hs hb (congrArg Tk.t e)
theorem Rl.sign {ts us : List Ev} {a b : RS} (ht : LastE ts) (hu : LastE us) (h : Rl ts us a b) (s : ByteArray) (hs : s.size ≠ 0) : Rl ts us (signS s ts a) (signS s us b) := by
  unfold signS
  rw [h.has]
  by_cases hb : hasB s ts a = true
  · rw [if_pos hb, if_pos hb]; exact h.onh hs hb
  · rw [if_neg hb, if_neg hb]; exact h.fail ht hu h.cur
theorem em_go {ts : List Ev} {st : RS} {x : Tk} {m : List Tk} (h : strm ts st = x :: m) (hx : x.k = 7) : emS ts st = emS ts st.on := by
  have q := strm_cons h
  exact emS_on q.2.2 ((congrArg Tk.k q.1).trans hx)
theorem rl_em {ts us : List Ev} : ∀ (l : List Tk) (a b : RS), a.er = b.er → Spr l (strm ts a) → Spr l (strm us b) → Rl ts us (emS ts a) (emS us b)
  | [], a, b, he, h1, h2 => by
    rw [emS_off (fun e => by have := congrArg Tk.k (strm_nil h1.nil').1; rw [show (curE ts a).tk.k = (curE ts a).k from rfl, e] at this; exact absurd this (by decide)),
      emS_off (fun e => by have := congrArg Tk.k (strm_nil h2.nil').1; rw [show (curE us b).tk.k = (curE us b).k from rfl, e] at this; exact absurd this (by decide))]
    exact ⟨he, [], h1, h2⟩
  | x :: l, a, b, he, h1, h2 => by
    have q : ∀ {vs : List Ev} {c : RS}, Spr (x :: l) (strm vs c) → (x.k = 7 → ∃ d, emS vs c = emS vs d ∧ d.er = c.er ∧ Spr l (strm vs d)) ∧ (x.k ≠ 7 → emS vs c = c) := fun {vs c} h => by
      generalize e : strm vs c = m at h
      refine ⟨fun hx => ?_, fun hx => ?_⟩
      · cases h with
        | one _ h => exact ⟨c.on, em_go e hx, rfl, by rw [(strm_cons e).2.1]; exact h⟩
        | two h =>
          have e2 := (strm_cons e).2.1
          exact ⟨c.on.on, (em_go e hx).trans (em_go e2 hx), rfl, by rw [(strm_cons e2).2.1]; exact h⟩
      · cases h with
        | one _ h => exact emS_off (fun e3 => hx ((congrArg Tk.k (strm_cons e).1).symm.trans e3))
        | two h => exact absurd rfl hx
    by_cases hx : x.k = 7
    · obtain ⟨d1, e1, f1, g1⟩ := (q h1).1 hx
      obtain ⟨d2, e2, f2, g2⟩ := (q h2).1 hx
      rw [e1, e2]
      exact rl_em l d1 d2 (by rw [f1, f2, he]) g1 g2
    · rw [(q h1).2 hx, (q h2).2 hx]
      exact ⟨he, _, h1, h2⟩
theorem Rl.em {ts us : List Ev} {a b : RS} (h : Rl ts us a b) : Rl ts us (emS ts a) (emS us b) := by
  obtain ⟨l, h1, h2⟩ := h.s
  exact rl_em l a b h.e h1 h2
theorem tk7_on {ts : List Ev} {st : RS} (h : (curE ts st).k = 7) : tkS 7 ts st = st.on := by
  have hg : greatT (curE ts st) = false := by unfold greatT; rw [h]; simp
  unfold tkS takeS takeOk
  rw [h, hg]
  simp
theorem Rl.line {ts us : List Ev} {a b : RS} (ht : LastE ts) (hu : LastE us) (h : Rl ts us a b) : Rl ts us (lineS ts a) (lineS us b) := by
  unfold lineS
  by_cases hk : (curE ts a).k = 7
  · rw [tk7_on hk, tk7_on (h.k.trans hk)]
    obtain ⟨l, h1, h2⟩ := h.s
    cases l with
    | nil =>
      have := congrArg Tk.k (strm_nil h1.nil').1
      rw [show (curE ts a).tk.k = (curE ts a).k from rfl, hk] at this
      exact absurd this (by decide)
    | cons x l =>
      have q : ∀ {vs : List Ev} {c : RS}, Spr (x :: l) (strm vs c) → ∃ d, emS vs c.on = emS vs d ∧ d.er = c.er ∧ Spr l (strm vs d) := fun {vs c} h => by
        generalize e : strm vs c = m at h
        cases h with
        | one _ h => exact ⟨c.on, rfl, rfl, by rw [(strm_cons e).2.1]; exact h⟩
        | two h =>
          have e2 := (strm_cons e).2.1
          exact ⟨c.on.on, em_go e2 rfl, rfl, by rw [(strm_cons e2).2.1]; exact h⟩
      obtain ⟨d1, e1, f1, g1⟩ := q h1
      obtain ⟨d2, e2, f2, g2⟩ := q h2
      rw [e1, e2]
      exact rl_em l d1 d2 (by rw [f1, f2, h.e]) g1 g2
  · have ho : ∀ {x : Ev}, x.k ≠ 7 → takeOk 7 x = false := fun {x} hx => by unfold takeOk; simp [hx]
    have e1 : tkS 7 ts a = failS ts (curE ts a) a := by unfold tkS takeS; rw [ho hk]; simp
    have e2 : tkS 7 us b = failS us (curE us b) b := by unfold tkS takeS; rw [ho (by rw [h.k]; exact hk)]; simp
    rw [e1, e2]
    exact (h.fail ht hu h.cur).em
/-- Answers of two readers of one mind. -/
def Rp {α : Type} (ts us : List Ev) (r q : α × RS) : Prop := q.1 = r.1 ∧ Rl ts us r.2 q.2
theorem Rl.two {ts us : List Ev} {a b : RS} (ht : LastE ts) (hu : LastE us) (h : Rl ts us a b) : tkV 2 us b = tkV 2 ts a ∧ tkV 2 us (signS comma us (tkS 2 us b)) = tkV 2 ts (signS comma ts (tkS 2 ts a)) ∧ Rl ts us (twoS ts a) (twoS us b) := by
  have h1 := h.take ht hu 2 (by decide)
  have h2 := (h1.2.sign ht hu comma (by decide)).take ht hu 2 (by decide)
  exact ⟨h1.1, h2.1, h2.2⟩
theorem Rl.op {ts us : List Ev} {a b : RS} (ht : LastE ts) (hu : LastE us) (h : Rl ts us a b) : opV us b = opV ts a ∧ Rl ts us (opS ts a) (opS us b) := by
  unfold opV opS
  rw [h.t]
  refine ⟨rfl, ?_⟩
  cases hf : findI (curE ts a).t with
  | some i =>
    dsimp only
    refine h.on fun e => ?_
    rw [show (curE ts a).t = [] from congrArg Tk.t e, show findI [] = none from rfl] at hf
    cases hf
  | none => exact h.fail ht hu h.cur
theorem Rl.last {ts us : List Ev} {a b : RS} (ht : LastE ts) (hu : LastE us) (h : Rl ts us a b) : Rp ts us (lastD ts a) (lastD us b) := by
  unfold lastD
  rw [h.has, h.has, h.has, h.has]
  split
  · rename_i hb
    have h1 := (h.onh (by decide) hb).take ht hu 3 (by decide)
    exact ⟨by dsimp only; rw [h1.1], h1.2⟩
  split
  · rename_i hb
    have h1 := (h.onh (by decide) hb).take ht hu 2 (by decide)
    have h2 := (h1.2.sign ht hu comma (by decide)).take ht hu 3 (by decide)
    have h3 := (h2.2.sign ht hu comma (by decide)).take ht hu 3 (by decide)
    exact ⟨by dsimp only; rw [h1.1, h2.1, h3.1], h3.2⟩
  split
  · rename_i hb
    have h1 := (h.onh (by decide) hb).take ht hu 2 (by decide)
    exact ⟨by dsimp only; rw [h1.1], h1.2⟩
  split
  · rename_i hb
    exact ⟨rfl, h.onh (by decide) hb⟩
  · exact ⟨rfl, h.fail ht hu h.cur⟩
theorem Rl.setr {ts us : List Ev} {a b : RS} (ht : LastE ts) (hu : LastE us) (h : Rl ts us a b) (d : Int) : Rp ts us (setR d ts a) (setR d us b) := by
  unfold setR
  rw [h.has, h.has, h.has, h.k]
  split
  · have h1 := h.take ht hu 5 (by decide)
    exact ⟨by dsimp only; rw [h1.1], h1.2⟩
  split
  · have h1 := h.take ht hu 2 (by decide)
    exact ⟨by dsimp only; rw [h1.1], h1.2⟩
  split
  · rename_i hb
    exact ⟨rfl, h.onh (by decide) hb⟩
  split
  · rename_i hb
    have h1 := (h.onh (by decide) hb).take ht hu 4 (by decide)
    exact ⟨by dsimp only; rw [h1.1], h1.2⟩
  split
  · rename_i hb
    have h1 := (h.onh (by decide) hb).take ht hu 2 (by decide)
    exact ⟨by dsimp only; rw [h1.1], h1.2⟩
  · have h1 := h.op ht hu
    have h2 := h1.2.two ht hu
    exact ⟨by dsimp only; rw [h1.1, h2.1, h2.2.1], h2.2.2⟩
theorem Rl.set {ts us : List Ev} {a b : RS} (ht : LastE ts) (hu : LastE us) (h : Rl ts us a b) : Rp ts us (setD ts a) (setD us b) := by
  have h1 := h.take ht hu 2 (by decide)
  have h2 := (h1.2.sign ht hu sEq (by decide)).setr ht hu (tkV 2 ts a)
  unfold setD
  rw [h1.1]
  exact h2
/-- Both read an instruction, the same one, or neither does. -/
theorem Rl.ins {ts us : List Ev} {a b : RS} (ht : LastE ts) (hu : LastE us) (h : Rl ts us a b) : (insD ts a = none ∧ insD us b = none) ∨ ∃ x s1 s2, insD ts a = some (x, s1) ∧ insD us b = some (x, s2) ∧ Rl ts us s1 s2 := by
  unfold insD
  rw [h.has, h.has, h.has, h.k]
  split
  · have h1 := h.set ht hu
    exact .inr ⟨(setD ts a).1, (setD ts a).2, (setD us b).2, rfl, by rw [← h1.1], h1.2⟩
  split
  · rename_i hb
    have h1 := (h.onh (by decide) hb).take ht hu 2 (by decide)
    exact .inr ⟨_, _, _, rfl, by rw [h1.1], h1.2⟩
  split
  · rename_i hb
    have h1 := (h.onh (by decide) hb).take ht hu 4 (by decide)
    have h2 := (h1.2.sign ht hu comma (by decide)).take ht hu 2 (by decide)
    exact .inr ⟨_, _, _, rfl, by rw [h1.1, h2.1], h2.2⟩
  split
  · rename_i hb
    have h2 := (h.onh (by decide) hb).two ht hu
    exact .inr ⟨_, _, _, rfl, by rw [h2.1, h2.2.1], h2.2.2⟩
  · exact .inl ⟨rfl, rfl⟩
theorem Rl.inss {ts us : List Ev} (kt : Tks ts) (ku : Tks us) (ht : LastE ts) (hu : LastE us) : ∀ (n : Nat) {a b : RS}, ROk ts a → ROk us b → Rl ts us a b → ts.length - a.nx ≤ n → Rp ts us (insL ts a) (insL us b)
  | 0, a, b, ra, rb, h, hn => by have := ra.i; unfold InS at this; omega
  | n + 1, a, b, ra, rb, h, hn => by
    rcases h.ins ht hu with ⟨e1, e2⟩ | ⟨x, s1, s2, e1, e2, h1⟩
    · rw [insL_none ra.i e1, insL_none rb.i e2]
      exact ⟨rfl, h⟩
    · have r1 := ins_step kt ra e1
      have r2 := ins_step ku rb e2
      have l1 := line_in kt r1.1.i
      have hi := ra.i
      unfold InS at hi
      have h2 := Rl.inss kt ku ht hu n (line_ok' kt r1.1) (line_ok' ku r2.1) (h1.line ht hu) (by have := r1.2; have := l1.2; omega)
      rw [insL_some kt ra e1, insL_some ku rb e2]
      exact ⟨by dsimp only; rw [h2.1], h2.2⟩
theorem Rl.end {ts us : List Ev} {a b : RS} (ht : LastE ts) (hu : LastE us) (h : Rl ts us a b) : Rl ts us (endS ts a) (endS us b) := by
  unfold endS
  rw [h.k]
  split
  · exact h
  · exact h.line ht hu
theorem Rl.blk {ts us : List Ev} (kt : Tks ts) (ku : Tks us) (ht : LastE ts) (hu : LastE us) {a b : RS} (ra : ROk ts a) (rb : ROk us b) (h : Rl ts us a b) : Rp ts us (blkD ts a) (blkD us b) := by
  have h1 := h.take ht hu 3 (by decide)
  have h2 := (h1.2.sign ht hu sColon (by decide)).line ht hu
  have h3 := Rl.inss kt ku ht hu ts.length (head_ok kt ra) (head_ok ku rb) (show Rl ts us (headS ts a) (headS us b) from h2) (by omega)
  have h4 := h3.2.last ht hu
  have h5 := h4.2.end ht hu
  unfold blkD
  dsimp only
  exact ⟨by dsimp only; rw [h1.1, h3.1, h4.1], h5⟩
theorem Rl.blks {ts us : List Ev} (kt : Tks ts) (ku : Tks us) (ht : LastE ts) (hu : LastE us) : ∀ (n : Nat) {a b : RS}, ROk ts a → ROk us b → Rl ts us a b → ts.length - a.nx ≤ n → Rp ts us (blksL ts a) (blksL us b)
  | 0, a, b, ra, rb, h, hn => by have := ra.i; unfold InS at this; omega
  | n + 1, a, b, ra, rb, h, hn => by
    by_cases hc : (curE ts a).k = 0
    · rw [blksL_end ra.i hc, blksL_end rb.i (h.k.trans hc)]
      exact ⟨rfl, h⟩
    · have hc2 : (curE us b).k ≠ 0 := by rw [h.k]; exact hc
      have r1 := blk_step kt ra hc
      have r2 := blk_step ku rb hc2
      have h1 := Rl.blk kt ku ht hu ra rb h
      have hi := ra.i
      unfold InS at hi
      have h2 := Rl.blks kt ku ht hu n r1.1 r2.1 h1.2 (by have := r1.2; omega)
      rw [blksL_step kt ra hc, blksL_step ku rb hc2]
      exact ⟨by dsimp only; rw [h1.1, h2.1], h2.2⟩
/-- **Read alike.** -/
theorem progD_rl {ts us : List Ev} (kt : Tks ts) (ku : Tks us) (ht : LastE ts) (hu : LastE us) {l : List Tk} (h1 : Spr l (ts.map Ev.tk)) (h2 : Spr l (us.map Ev.tk)) : (progD us).1 = (progD ts).1 ∧ (progD us).2.er = (progD ts).2.er := by
  have z : ∀ {vs : List Ev}, LastE vs → ROk vs ⟨0, 0, 0⟩ := fun {vs} hv => by
    obtain ⟨pre, h⟩ := hv
    have hl : vs.length = pre.length + 1 := by have := congrArg List.length h; simpa using this
    exact ⟨by show 0 < vs.length; omega, fun he => absurd rfl he⟩
  have h0 : Rl ts us ⟨0, 0, 0⟩ ⟨0, 0, 0⟩ := ⟨rfl, l, by show Spr l ((ts.drop 0).map Ev.tk); rw [List.drop_zero]; exact h1, by show Spr l ((us.drop 0).map Ev.tk); rw [List.drop_zero]; exact h2⟩
  have h3 := Rl.blks kt ku ht hu ts.length (em_ok kt (z ht)) (em_ok ku (z hu)) h0.em (by omega)
  exact ⟨h3.1, h3.2.e.symm⟩
end Go.Proofs.YtbdjpmmbnlmkhaaDoor


/- ParseGaps: the walk. -/
set_option linter.unusedSimpArgs false
set_option linter.unusedVariables false
namespace Go.Proofs.YtbdjpmmbnlmkhaaDoor
open Go.RowKit Go.Sort

theorem PW.take {l : List (List UInt8)} {ks : List Tk} (h : PW l ks) : ∀ k, PW (l.take k) (ks.take k) := by
  induction h with
  | nil => intro k; rw [List.take_nil, List.take_nil]; exact .nil
  | cons h _ ih =>
    intro k
    cases k with
    | zero => exact .nil
    | succ k => exact .cons h (ih k)
theorem parseR_er {l : List UInt8} {ts : List Ev} (hl : l.length ≤ 100000) (he : evT 0 l = ts) (h0 : ∀ x ∈ ts, x.e = 0) :
    parseR (bytesOf l) = if (progD ts).2.er ≠ 0 then ([], (progD ts).2.pl, (progD ts).2.er) else if checkA (progD ts).1 ≠ 0 then ([], ((bytesOf l).size : Int), checkA (progD ts).1) else ((progD ts).1, 0, 0) := by
  unfold parseR
  rw [evsAll_list l hl, he, find_good h0]
/-- What is told of a text that is read as these tokens, the text's end behind them. -/
theorem rdk_ts {l : List UInt8} {ks : List Tk} (h : RdK l ks) : ∃ ts, evT 0 l = ts ∧ (∀ x ∈ ts, x.e = 0) ∧ ts.map Ev.tk = ks ++ [kE] := by
  obtain ⟨ws, h1, rfl⟩ := h
  refine ⟨_, h1.all 0, ?_, ?_⟩
  · intro x hx
    rcases List.mem_append.1 hx with hx | hx
    · obtain ⟨y, hy, rfl⟩ := List.mem_map.1 hx
      exact h1.2 y hy
    · simp at hx; subst hx; rfl
  · rw [List.map_append, tk_sh]; rfl
theorem gaps_same {l : List (List UInt8)} {ks : List Tk} (h : PW l ks) (a b : List Int) (ha : (txG a 0 l).length ≤ 100000) (hb : (txG b 0 l).length ≤ 100000) :
    (parseR (bytesOf (txG b 0 l))).1 = (parseR (bytesOf (txG a 0 l))).1 ∧ (parseR (bytesOf (txG b 0 l))).2.2 = (parseR (bytesOf (txG a 0 l))).2.2 := by
  obtain ⟨m, h1, s1⟩ := h.gaps a 0
  obtain ⟨n, h2, s2⟩ := h.gaps b 0
  obtain ⟨ts, e1, z1, t1⟩ := rdk_ts h1
  obtain ⟨us, e2, z2, t2⟩ := rdk_ts h2
  have kt : Tks ts := by rw [← e1]; exact tks_evT 0 _
  have ku : Tks us := by rw [← e2]; exact tks_evT 0 _
  have q := progD_rl kt ku ⟨_, t1⟩ ⟨_, t2⟩ (l := ks ++ [kE]) (by rw [t1]; exact s1.app (Spr.refl _)) (by rw [t2]; exact s2.app (Spr.refl _))
  rw [parseR_er ha e1 z1, parseR_er hb e2 z2, q.1, q.2]
  by_cases he : (progD ts).2.er ≠ 0
  · rw [if_pos he, if_pos he]; exact ⟨rfl, rfl⟩
  · rw [if_neg he, if_neg he]
    by_cases hc : checkA (progD ts).1 ≠ 0
    · rw [if_pos hc, if_pos hc]; exact ⟨rfl, rfl⟩
    · rw [if_neg hc, if_neg hc]; exact ⟨rfl, rfl⟩
theorem progA_gaps {s : SmlM} (hl : lightB s = true) (hw : LinsWf s) (a b : List Int) (k : Nat) :
    ((parseR (bytesOf (txG b 0 ((txP (progA s)).take k)))).1 = (parseR (bytesOf (txG a 0 ((txP (progA s)).take k)))).1 ∧ (parseR (bytesOf (txG b 0 ((txP (progA s)).take k)))).2.2 = (parseR (bytesOf (txG a 0 ((txP (progA s)).take k)))).2.2) ∧
    (txG a 0 ((txP (progA s)).take k)).length ≤ 100000 ∧ (txG b 0 ((txP (progA s)).take k)).length ≤ 100000 := by
  have hn : ∀ g, (txG g 0 ((txP (progA s)).take k)).length ≤ 100000 := fun g => by
    have h1 := txG_len g (l := (txP (progA s)).take k) 0 (fun x hx => txP_tok (progA_64 hl hw) x (List.mem_of_mem_take hx))
    have h3 := progA_len hl
    have h4 : ((txP (progA s)).take k).length ≤ (txP (progA s)).length := by rw [List.length_take]; omega
    omega
  exact ⟨gaps_same ((pw_prog (progA_p hl hw)).take k) a b (hn a) (hn b), hn a, hn b⟩
/-- The first ones. -/
theorem SS.take {n : Nat} {W : World} {va : Option Addr} {m c : Nat} {l : List (List UInt8)} (h : SS n (.slice va m c) l W) (hl : 0 < l.length) (k : Nat) (hk : k ≤ l.length) : SS n (.slice va k c) (l.take k) W := by
  obtain ⟨⟨h0, ⟨h1, h2⟩ | ⟨b, off, cap, cur, h1, h2, h3, h4, h5, h6⟩⟩, ho⟩ := h
  · omega
  · cases h1
    have hlk : (l.take k).length = k := by rw [List.length_take]; omega
    refine ⟨⟨?_, .inr ⟨b, off, _, cur, ?_, h2, ?_, h4, h5, fun j hj => ?_⟩⟩, ho⟩
    · simp [svs]
    · rw [hlk]
    · rw [hlk]; omega
    · have hj2 : j < k := by rw [svs_len, Nat.mul_one, hlk] at hj; exact hj
      rw [h6 j (by simp [svs]; omega)]
      simp only [svs, List.getElem?_map]
      rw [List.getElem?_take, if_pos hj2]
end Go.Proofs.YtbdjpmmbnlmkhaaDoor

