/- Joined: Pin, Prs, Sam. -/
import Derived.Test.YtbdjpmmbnlmkhaaDoorJa
import Derived.Test.YtbdjpmmbnlmkhaaDoorEvT
import Derived.Test.YtbdjpmmbnlmkhaaDoorKb
import Derived.Test.YtbdjpmmbnlmkhaaDoorJc
import Derived.Test.YtbdjpmmbnlmkhaaDoorJx
import Derived.Deep.QuietTactic
import Derived.BigQuiet


/- What is read: numbers in their ranges, and how much there is. -/
set_option linter.unusedSimpArgs false
set_option linter.unusedVariables false
namespace Go.Proofs.YtbdjpmmbnlmkhaaDoor
open Go.RowKit Go.Sort

def W64 (n : Int) : Prop := -9223372036854775808 ≤ n ∧ n ≤ 9223372036854775807
theorem parseB_in {l : List UInt8} {v : Int} (h : Lib.parseIntB 64 l = .ok v) : W64 v := by
  unfold Lib.parseIntB at h
  cases l with
  | nil => cases h
  | cons c r =>
    dsimp only at h
    cases hu : Lib.parseUintB 64 (if c.toNat = 43 ∨ c.toNat = 45 then r else c :: r) with
    | ok u =>
      rw [hu] at h
      dsimp only at h
      have e : (2 : Nat) ^ (64 - 1) = 9223372036854775808 := by decide
      rw [e] at h
      unfold W64
      by_cases hn : c.toNat = 45
      · simp only [hn, not_true_eq_false, false_and, if_false, true_and, if_true] at h
        split at h
        · cases h
        · cases h; omega
      · simp only [hn, not_false_eq_true, true_and, false_and, if_false] at h
        split at h
        · cases h
        · cases h; omega
    | range => rw [hu] at h; cases h
    | _ => rw [hu] at h; cases h
theorem numV_in (b : List UInt8) : W64 (numV b).1 := by
  unfold numV
  split
  · rename_i v hv
    split
    · exact parseB_in hv
    · unfold W64; omega
  · unfold W64; omega
theorem numdV_in (b : List UInt8) : 0 ≤ (numdV b).1 ∧ W64 (numdV b).1 := by
  unfold numdV
  split
  · exact ⟨Int.le_refl _, by unfold W64; omega⟩
  · rename_i h
    exact ⟨by show 0 ≤ (numV b).1; omega, numV_in b⟩
/-- A token's number is one of 64 bits; of a register, a label, a slot it isn't below 0. -/
def EvW (x : Ev) : Prop := W64 x.n ∧ (x.k = 2 ∨ x.k = 3 ∨ x.k = 4 → 0 ≤ x.n)
theorem read_in (b : List UInt8) (p : Nat) : EvW ⟨(readL b).1, p, (readL b).2.1, (readL b).2.2.1, 0⟩ := by
  have z : W64 0 := by unfold W64; omega
  unfold readL readV EvW
  repeat' split
  all_goals first
    | exact ⟨z, fun _ => Int.le_refl _⟩
    | exact ⟨numV_in b, fun h => by simp at h⟩
    | exact ⟨(numdV_in _).2, fun _ => (numdV_in _).1⟩
theorem evL_in : ∀ (f p : Nat) (b : List UInt8), ∀ x ∈ evL f p b, EvW x
  | 0, _, _, x, h => by simp [evL] at h
  | f + 1, p, b, x, h => by
    have z : ∀ q e, EvW ⟨0, q, [], 0, e⟩ := fun q e => ⟨by show W64 0; unfold W64; omega, fun _ => Int.le_refl _⟩
    unfold evL at h
    split at h
    · simp at h; subst h; exact z _ _
    split at h
    · simp at h; subst h; exact z _ _
    split at h
    · exact evL_in f _ _ x h
    · rcases List.mem_cons.1 h with rfl | h
      · exact read_in b p
      · exact evL_in f _ _ x h
theorem evT_in (p : Nat) (b : List UInt8) : ∀ x ∈ evT p b, EvW x := evL_in _ p b
theorem evL_last : ∀ (f p : Nat) (b : List UInt8), b.length < f → ∃ l q e, evL f p b = l ++ [⟨0, q, [], 0, e⟩] ∧ l.length ≤ b.length
  | 0, _, b, h => by omega
  | f + 1, p, b, h => by
    unfold evL
    split
    · exact ⟨[], p, 0, rfl, Nat.zero_le _⟩
    split
    · exact ⟨[], p, 4, rfl, Nat.zero_le _⟩
    rename_i h0 hz
    have hl : 0 < b.length := List.length_pos_iff.2 h0
    obtain ⟨l, q, e, h1, h2⟩ := evL_last f (p + (readL b).2.2.2) (b.drop (readL b).2.2.2) (by rw [List.length_drop]; omega)
    rw [List.length_drop] at h2
    split
    · exact ⟨l, q, e, h1, by omega⟩
    · exact ⟨⟨(readL b).1, p, (readL b).2.1, (readL b).2.2.1, 0⟩ :: l, q, e, by rw [h1]; rfl, by simp; omega⟩
/-- The last token alone is an End. -/
theorem tks_of {l : List Ev} {q : Nat} {e : Int} : Tks (l ++ [⟨0, q, [], 0, e⟩]) := by
  have key : ∀ (i : Nat) (x : Ev), (l ++ [(⟨0, q, [], 0, e⟩ : Ev)])[i]? = some x → ¬ (i + 1 < (l ++ [(⟨0, q, [], 0, e⟩ : Ev)]).length) → x = ⟨0, q, [], 0, e⟩ := fun i x h hn => by
    have hi := (List.getElem?_eq_some_iff.1 h).1
    simp at hn hi
    have : i = l.length := by omega
    subst this
    simp at h
    exact h.symm
  refine ⟨fun i x h hk => ?_, fun i x h hk => ?_⟩
  · apply Classical.byContradiction
    intro hn
    rw [key i x h hn] at hk
    exact hk rfl
  · apply Classical.byContradiction
    intro hn
    rw [key i x h hn] at hk
    exact hk rfl
/-- The tokens of a text that has no fault among them. -/
structure TsOk (s : ByteArray) (ts : List Ev) : Prop where
  t : Tks ts
  v : ∀ x ∈ ts, EvW x
  n : ts.length ≤ 100001
  p : 0 < ts.length
theorem ts_ok {s : ByteArray} (h : ∀ x ∈ evsAll s, x.e = 0) : s.size ≤ 100000 ∧ evsAll s = evT 0 s.data.toList ∧ TsOk s (evsAll s) := by
  have hs : ¬ 100000 < s.size := fun hl => by
    unfold evsAll at h
    rw [if_pos hl] at h
    have := h _ (List.mem_singleton.2 rfl)
    simp at this
  have he : evsAll s = evT 0 s.data.toList := by unfold evsAll; rw [if_neg hs, evsFrom_all]
  obtain ⟨l, q, e, h1, h2⟩ := evL_last (s.data.toList.length + 1) 0 s.data.toList (by omega)
  have h3 : evT 0 s.data.toList = l ++ [⟨0, q, [], 0, e⟩] := h1
  rw [size_list] at h2
  refine ⟨by omega, he, ?_⟩
  rw [he]
  refine ⟨by rw [h3]; exact tks_of, evT_in _ _, by rw [h3]; simp; omega, by rw [h3]; simp⟩
section
variable {ts : List Ev}
theorem cur_in (hv : ∀ x ∈ ts, EvW x) (st : RS) : EvW (curE ts st) := by
  unfold curE
  cases h : ts[st.nx]? with
  | none => exact ⟨by show W64 0; unfold W64; omega, fun _ => Int.le_refl _⟩
  | some x => exact hv x (List.mem_of_getElem? h)
theorem tkV_w (hv : ∀ x ∈ ts, EvW x) (k : Int) (st : RS) : W64 (tkV k ts st) := by
  unfold tkV takeV
  split
  · exact (cur_in hv st).1
  · unfold W64; omega
theorem tkV_lab (hv : ∀ x ∈ ts, EvW x) (k : Int) (hk : k = 2 ∨ k = 3) (st : RS) : 0 ≤ tkV k ts st ∧ tkV k ts st < 100000 := by
  unfold tkV takeV
  split
  · rename_i h
    unfold takeOk greatT at h
    simp only [Bool.and_eq_true, decide_eq_true_eq, Bool.not_eq_true', decide_eq_false_iff_not] at h
    have := (cur_in hv st).2
    have hk2 := h.1
    refine ⟨this (by omega), ?_⟩
    have := h.2
    omega
  · omega
theorem opV_in (st : RS) : 0 ≤ opV ts st ∧ opV ts st < 12 := by
  unfold opV
  split
  · rename_i i hi
    unfold findI at hi
    rw [List.findIdx?_eq_some_iff_getElem] at hi
    obtain ⟨h1, _⟩ := hi
    have hl : wordTab.length = 12 := rfl
    omega
  · omega
/-- An instruction that was read. -/
def InsG (x : InsM) : Prop := 0 ≤ x.k ∧ x.k < 9 ∧ 0 ≤ x.o ∧ x.o < 12 ∧ W64 x.n
structure BlkG (b : ABlk) : Prop where
  l : 0 ≤ b.lab ∧ b.lab < 100000
  i : ∀ x ∈ b.ins, InsG x
  e : 0 ≤ b.e ∧ b.e < 4
  y : 0 ≤ b.y ∧ b.y < 100000
  n : 0 ≤ b.n ∧ b.n < 100000
theorem w0 : W64 0 := by unfold W64; omega
theorem insD_in (hv : ∀ x ∈ ts, EvW x) {st : RS} {x : InsM} {s1 : RS} (h : insD ts st = some (x, s1)) : InsG x := by
  have ho := fun st => opV_in (ts := ts) st
  unfold insD at h
  split at h
  · have hx : (setD ts st).1 = x := congrArg Prod.fst (Option.some.inj h)
    subst hx
    unfold setD setR
    repeat' split
    all_goals first
      | exact ⟨by simp, by simp, Int.le_refl _, by show (0 : Int) < 12; omega, tkV_w hv _ _⟩
      | exact ⟨by simp, by simp, Int.le_refl _, by show (0 : Int) < 12; omega, w0⟩
      | exact ⟨by simp, by simp, (ho _).1, (ho _).2, w0⟩
  split at h
  · cases h; exact ⟨by simp, by simp, by simp, by simp, w0⟩
  split at h
  · cases h; exact ⟨by simp, by simp, by simp, by simp, w0⟩
  split at h
  · cases h; exact ⟨by simp, by simp, by simp, by simp, w0⟩
  · cases h
theorem insF_in (hv : ∀ x ∈ ts, EvW x) : ∀ (f : Nat) (st : RS), ∀ x ∈ (insF ts f st).1, InsG x
  | 0, st, x, h => by simp [insF] at h
  | f + 1, st, x, h => by
    unfold insF at h
    cases hi : insD ts st with
    | none => rw [hi] at h; simp at h
    | some r =>
      obtain ⟨y, s1⟩ := r
      rw [hi] at h
      rcases List.mem_cons.1 h with rfl | h
      · exact insD_in hv hi
      · exact insF_in hv f _ x h
theorem lastD_in (hv : ∀ x ∈ ts, EvW x) (st : RS) : (0 ≤ (lastD ts st).1.1 ∧ (lastD ts st).1.1 < 4) ∧ (0 ≤ (lastD ts st).1.2.2.1 ∧ (lastD ts st).1.2.2.1 < 100000) ∧ (0 ≤ (lastD ts st).1.2.2.2 ∧ (lastD ts st).1.2.2.2 < 100000) := by
  have h3 := fun st => tkV_lab hv 3 (.inr rfl) st
  unfold lastD
  repeat' split
  all_goals (refine ⟨⟨by simp, by simp⟩, ?_, ?_⟩ <;> first | exact h3 _ | exact ⟨by simp, by simp⟩)
theorem blkD_in (hv : ∀ x ∈ ts, EvW x) (st : RS) : BlkG (blkD ts st).1 := by
  have := lastD_in hv (insL ts (headS ts st)).2
  exact ⟨tkV_lab hv 3 (.inr rfl) st, insF_in hv _ _, this.1, this.2.1, this.2.2⟩
theorem blksF_in (hv : ∀ x ∈ ts, EvW x) : ∀ (f : Nat) (st : RS), ∀ b ∈ (blksF ts f st).1, BlkG b
  | 0, st, x, h => by simp [blksF] at h
  | f + 1, st, x, h => by
    unfold blksF at h
    split at h
    · simp at h
    · rcases List.mem_cons.1 h with rfl | h
      · exact blkD_in hv st
      · exact blksF_in hv f _ x h
theorem insL_len (ht : Tks ts) : ∀ (n : Nat) {st : RS}, ROk ts st → ts.length - st.nx ≤ n → (insL ts st).1.length + st.nx ≤ (insL ts st).2.nx
  | 0, st, h, hn => by have := h.i; unfold InS at this; omega
  | n + 1, st, h, hn => by
    cases he : insD ts st with
    | none => rw [insL_none h.i he]; simp
    | some r =>
      obtain ⟨x, s1⟩ := r
      have h1 := ins_step ht h he
      have h2 := line_in ht h1.1.i
      have := h.i
      unfold InS at this
      have h3 := insL_len ht n (line_ok' ht h1.1) (by omega)
      rw [insL_some ht h he]
      simp only [List.length_cons]
      omega
def cntA (l : List ABlk) : Nat := (l.map fun b => 1 + b.ins.length).sum
theorem blk_len (ht : Tks ts) {st : RS} (h : ROk ts st) (hc : (curE ts st).k ≠ 0) : 1 + (blkD ts st).1.ins.length + st.nx ≤ (blkD ts st).2.nx := by
  have h1 := head_ok ht h
  have l1 := head_lt ht h hc
  have h2 := insL_ok ht ts.length h1 (by omega)
  have h5 := insL_len ht ts.length h1 (by omega)
  have l3 := last_in ht h2.1
  have l4 := end_in ht (last_okD ht h2.1).i
  show 1 + (insL ts (headS ts st)).1.length + st.nx ≤ (endS ts (lastD ts (insL ts (headS ts st)).2).2).nx
  omega
theorem blks_len (ht : Tks ts) : ∀ (n : Nat) {st : RS}, ROk ts st → ts.length - st.nx ≤ n → cntA (blksL ts st).1 + st.nx ≤ (blksL ts st).2.nx ∧ ROk ts (blksL ts st).2
  | 0, st, h, hn => by have := h.i; unfold InS at this; omega
  | n + 1, st, h, hn => by
    by_cases hc : (curE ts st).k = 0
    · rw [blksL_end h.i hc]; exact ⟨by simp [cntA], h⟩
    · have h1 := blk_step ht h hc
      have h2 := blk_len ht h hc
      have := h.i
      unfold InS at this
      have h3 := blks_len ht n h1.1 (by omega)
      rw [blksL_step ht h hc]
      refine ⟨?_, h3.2⟩
      simp only [cntA, List.map_cons, List.sum_cons] at h3 ⊢
      omega
end
/-- The whole program that was read. -/
theorem prog_in {s : ByteArray} {ts : List Ev} (h : TsOk s ts) : (∀ b ∈ (progD ts).1, BlkG b) ∧ cntA (progD ts).1 < 100001 ∧ ROk ts (progD ts).2 := by
  have h0 : ROk ts ⟨0, 0, 0⟩ := ⟨h.p, fun he => absurd rfl he⟩
  have h1 := blks_len h.t ts.length (em_ok h.t h0) (by omega)
  have h2 := h1.2.i
  unfold InS at h2
  have hn := h.n
  exact ⟨blksF_in h.v _ _, by show cntA (blksL ts (emS ts ⟨0, 0, 0⟩)).1 < _; omega, h1.2⟩
end Go.Proofs.YtbdjpmmbnlmkhaaDoor


/- What a call of parse.Parse comes to. -/
set_option linter.unusedSimpArgs false
set_option linter.unusedVariables false
namespace Go.Proofs.YtbdjpmmbnlmkhaaDoor
open Go.RowKit Go.Sort

/-- What Check finds in a plain program. -/
def checkA (l : List ABlk) : Int := checkE (l.map fun b => b.at (.slice none 0 0))
theorem blkE_ab {labs : List Int} {B : BlkM} (h : B.phis = []) : blkE labs B = blkE labs (B.ab.at (.slice none 0 0)) := by
  unfold blkE
  rw [h]
  rfl
theorem countM_ab {bs : List BlkM} (h : ∀ B ∈ bs, B.phis = []) : countM bs = countM ((bs.map BlkM.ab).map fun b => b.at (.slice none 0 0)) := by
  unfold countM
  congr 1
  rw [List.map_map, List.map_map]
  apply List.map_congr_left
  intro B hB
  show 1 + B.phis.length + B.ins.length = 1 + 0 + B.ins.length
  rw [h B hB]
  rfl
theorem checkE_ab {bs : List BlkM} (h : ∀ B ∈ bs, B.phis = []) : checkE bs = checkA (bs.map BlkM.ab) := by
  have hl : labsOf bs = labsOf ((bs.map BlkM.ab).map fun b => b.at (.slice none 0 0)) := by unfold labsOf; rw [List.map_map, List.map_map]; rfl
  have hb : bs.map (blkE (labsOf bs)) = ((bs.map BlkM.ab).map fun b => b.at (.slice none 0 0)).map (blkE (labsOf bs)) := by
    rw [List.map_map, List.map_map]
    apply List.map_congr_left
    intro B hB
    exact blkE_ab (h B hB)
  unfold checkA checkE
  rw [← countM_ab h, ← hl, ← hb]
  simp only [List.length_map]
theorem countM_cntA {bs : List BlkM} (h : ∀ B ∈ bs, B.phis = []) : countM bs = cntA (bs.map BlkM.ab) := by
  unfold countM cntA
  congr 1
  rw [List.map_map]
  apply List.map_congr_left
  intro B hB
  show 1 + B.phis.length + B.ins.length = 1 + B.ins.length
  rw [h B hB]
  simp
/-- What Parse answers: blocks, where, which error. -/
def parseR (s : ByteArray) : List ABlk × Int × Int :=
  match (evsAll s).find? (fun x => decide (x.e ≠ 0)) with
  | some x => ([], x.p, x.e)
  | none => if (progD (evsAll s)).2.er ≠ 0 then ([], (progD (evsAll s)).2.pl, (progD (evsAll s)).2.er) else if checkA (progD (evsAll s)).1 ≠ 0 then ([], (s.size : Int), checkA (progD (evsAll s)).1) else ((progD (evsAll s)).1, 0, 0)
def ParseP (s : ByteArray) (w : World) (e : Ending) (w' : World) : Prop :=
  ∃ va vc bs, e = .returned (.tuple #[.agg #[.slice va bs.length vc], .int .i64 (parseR s).2.1, .int .i64 (parseR s).2.2]) ∧ bs.map BlkM.ab = (parseR s).1 ∧ Tch [] w w' ∧ Pgm w.heap.size (.slice va bs.length vc) bs w'
theorem find_bad {l m : List Ev} {x : Ev} (h : l ++ [x] <+: m) (hl : ∀ y ∈ l, y.e = 0) (hx : ¬ x.e = 0) : m.find? (fun x => decide (x.e ≠ 0)) = some x := by
  obtain ⟨r, rfl⟩ := h
  rw [List.find?_append, List.find?_append]
  have : l.find? (fun x => decide (x.e ≠ 0)) = none := by
    rw [List.find?_eq_none]
    intro y hy
    simp [hl y hy]
  rw [this]
  simp [List.find?, hx]
theorem find_good {m : List Ev} (h : ∀ y ∈ m, y.e = 0) : m.find? (fun x => decide (x.e ≠ 0)) = none := by
  rw [List.find?_eq_none]
  intro y hy
  simp [h y hy]
theorem Kinds.tch {w w' : World} (h : Kinds w) (t : Tch [] w w') : Kinds w' := fun k j hk hj => by
  have hc := h k j hk hj
  have hlt : 0 < w.heap.size := cell_lt hc
  unfold World.cell? at hc ⊢
  rw [t.block _ hlt (by simp)]
  exact hc
theorem wfI_small {x : Int} (h : 0 ≤ x ∧ x < 100000) : wfI x := wfI_mk (by omega) (by omega)
theorem blkG_wf {B : BlkM} (hp : B.phis = []) (h : BlkG B.ab) : BlkWf B :=
  ⟨wfI_small h.l, wfI_small h.y, wfI_small h.n, fun q hq => by rw [hp] at hq; simp at hq, fun q hq => (h.i q hq).1⟩
end Go.Proofs.YtbdjpmmbnlmkhaaDoor


/- What a call of ir.Same comes to, of two plain programs that are the same. -/
set_option linter.unusedSimpArgs false
set_option linter.unusedVariables false
namespace Go.Proofs.YtbdjpmmbnlmkhaaDoor
open Go.RowKit Go.Sort

theorem eqI_self (x : InsM) : eqI x x = true := by simp [eqI]
theorem eqL_self (x : LstM) : eqL x x = true := by simp [eqL]
set_option maxRecDepth 100000 in
set_option maxHeartbeats 2000000 in
theorem eqins_nil (a b : Option Addr) (c d : Nat) (w : World) : Calls Tryd.prog 83 #[.slice a 0 c, .slice b 0 d] w fun e w' => e = .returned (.bool true) ∧ Tch [] w w' := by
  go_enter Tryd.func83, Tryd.ntmps83
  go_wp2
  refine wp_loop_rounds 1 ?_
  rw [rounds_succ]
  go_wp2
  go_ret
  exact ⟨rfl, Tch.refl _ _⟩
set_option maxRecDepth 100000 in
set_option maxHeartbeats 2000000 in
theorem eqphis_nil (w : World) : Calls Tryd.prog 84 #[.slice none 0 0, .slice none 0 0, .func (.func 85) #[] #[]] w fun e w' => e = .returned (.bool true) ∧ Tch [] w w' := by
  go_enter Tryd.func84, Tryd.ntmps84
  go_wp2
  refine wp_loop_rounds 1 ?_
  rw [rounds_succ]
  go_wp2
  go_ret
  exact ⟨rfl, Tch.refl _ _⟩
set_option maxRecDepth 100000 in
set_option maxHeartbeats 2000000 in
theorem eqins_some (b1 o1 c1 b2 o2 c2 : Nat) (l : List InsM) (w : World) (hn : l.length ≤ 9223372036854775807) (h1 : Sl w 39 7 (.slice (some ⟨b1, o1, none⟩) l.length c1) l.length (insC l)) (h2 : Sl w 39 7 (.slice (some ⟨b2, o2, none⟩) l.length c2) l.length (insC l)) :
    Calls Tryd.prog 83 #[.slice (some ⟨b1, o1, none⟩) l.length c1, .slice (some ⟨b2, o2, none⟩) l.length c2] w fun e w' => e = .returned (.bool true) ∧ Tch [] w w' := by
  have H1 := hid h1
  have H2 := hid h2
  clear h1 h2
  go_enter Tryd.func83, Tryd.ntmps83
  go_wp2
  go_loopw [5, 13] (fun _ vi wr => ∃ k : Nat, vi = .int .i64 k ∧ k ≤ l.length ∧ Hid (Tch [] w wr)) (fun _ vi _ => l.length - (intOf vi).toNat)
  case atStart => exact ⟨0, rfl, Nat.zero_le _, Tch.refl _ _⟩
  case round =>
    obtain ⟨k, rfl, hk, HT⟩ := hrel
    by_cases hlt : k < l.length
    · obtain ⟨x, hx⟩ : ∃ x, l[k]? = some x := ⟨l[k], by simp [hlt]⟩
      obtain ⟨p0, p1, p2, p3, p4, p5, p6⟩ := ins_at (H1.out.kept HT.out (by simp)) k hx
      obtain ⟨q0, q1, q2, q3, q4, q5, q6⟩ := ins_at (H2.out.kept HT.out (by simp)) k hx
      have HX := hid hx
      have hs := eqI_self x
      clear hx
      go_wp2
      refine wp_region_quiet_lit (by kernel_rfl) (by kernel_rfl) ?_
      repeat (first | go_big_quiet_step (fail) | quiet_step (fail))
      refine wpQuiet_nil ?_
      rintro _ ⟨nq, rfl⟩
      go_simp
      go_wp2
      go_roundw
      case rel => exact ⟨k + 1, by go_num, by omega, HT.out.drewN _⟩
      case measure => simp [intOf]; omega
    · obtain rfl : k = l.length := by omega
      go_wp2
      go_ret
      exact ⟨rfl, HT.out⟩
theorem eqins_true (v1 v2 : Value) (l : List InsM) (w : World) (hn : l.length ≤ 9223372036854775807) (h1 : Sl w 39 7 v1 l.length (insC l)) (h2 : Sl w 39 7 v2 l.length (insC l)) :
    Calls Tryd.prog 83 #[v1, v2] w fun e w' => e = .returned (.bool true) ∧ Tch [] w w' := by
  by_cases h0 : l.length = 0
  · obtain ⟨a, c, rfl⟩ := h1.shape
    obtain ⟨b, d, rfl⟩ := h2.shape
    rw [h0]
    exact eqins_nil a b c d w
  · obtain ⟨b1, o1, c1, rfl⟩ := h1.ptr (by omega)
    obtain ⟨b2, o2, c2, rfl⟩ := h2.ptr (by omega)
    exact eqins_some b1 o1 c1 b2 o2 c2 l w hn h1 h2
set_option maxRecDepth 100000 in
set_option maxHeartbeats 4000000 in
theorem sameC_true (ia ib : Option Addr) (ic jc : Nat) (B : ABlk) (w : World) (hn : B.ins.length ≤ 9223372036854775807) (h1 : Sl w 39 7 (.slice ia B.ins.length ic) B.ins.length (insC B.ins)) (h2 : Sl w 39 7 (.slice ib B.ins.length jc) B.ins.length (insC B.ins)) :
    Calls Tryd.prog 82 #[.agg (bkC B.lab (.slice ia B.ins.length ic) B.e B.a B.y B.n), .agg (bkC B.lab (.slice ib B.ins.length jc) B.e B.a B.y B.n)] w fun e w' => e = .returned (.bool true) ∧ Tch [] w w' := by
  have H1 := hid h1
  have H2 := hid h2
  have hs := eqL_self ⟨B.e, B.a, B.y, B.n⟩
  clear h1 h2
  unfold bkC
  go_enter Tryd.func82, Tryd.ntmps82
  go_wp2_with (first
    | (go_at_call 83; refine (eqins_true _ _ B.ins _ hn (H1.out.kept (((Tch.refl [] w).alloc _).alloc _) (by simp)) (H2.out.kept (((Tch.refl [] w).alloc _).alloc _) (by simp))).mono ?_; rintro e W ⟨rfl, t1⟩; have T1 := hid ((((Tch.refl [] w).alloc _).alloc _).trans t1); have c1 : W.cell? ⟨w.heap.size, 1, none⟩ = some (.slice none 0 0) := cell_of_row _ _ 1 _ _ _ (t1.obj (((Tch.refl [] _).alloc _).obj (heap_alloc_new w (.cells (bkC B.lab (.slice ia B.ins.length ic) B.e B.a B.y B.n) 50)) (by simp)) (by simp)); have c2 : W.cell? ⟨w.heap.size + 1, 1, none⟩ = some (.slice none 0 0) := (by have := cell_of_row W _ 1 _ _ _ (t1.obj (heap_alloc_new (w.alloc (.cells (bkC B.lab (.slice ia B.ins.length ic) B.e B.a B.y B.n) 50)) (.cells (bkC B.lab (.slice ib B.ins.length jc) B.e B.a B.y B.n) 50)) (by simp)); simpa [bkC] using this); clear t1)
    | (go_at_call 84; refine (eqphis_nil _).mono ?_; rintro e W2 ⟨rfl, t2⟩; have T2 := hid (T1.out.trans t2); clear t2))
  go_ret
  exact ⟨rfl, T2.out⟩
/-- A plain program in memory. -/
structure Plp (w : World) (v : Value) (bs : List BlkM) : Prop where
  b : Sl w 50 7 v bs.length (blkC bs)
  p : ∀ B ∈ bs, B.pv = .slice none 0 0 ∧ B.phis = []
  i : ∀ B ∈ bs, Sl w 39 7 B.iv B.ins.length (insC B.ins)
  n : ∀ B ∈ bs, B.ins.length ≤ 9223372036854775807
theorem Plp.tch {w w' : World} {v : Value} {bs : List BlkM} (h : Plp w v bs) (t : Tch [] w w') : Plp w' v bs :=
  ⟨h.b.kept t (by simp), h.p, fun B hB => (h.i B hB).kept t (by simp), h.n⟩
theorem Pgm.plp {n : Nat} {v : Value} {bs : List BlkM} {W : World} (h : Pgm n v bs W) : Plp W v bs :=
  ⟨h.b, h.p, h.i, fun B hB => by have := (h.i B hB).le; unfold maxLen at this; omega⟩
theorem Own.plp {w0 w : World} {v : Value} {bp : Nat} {bs : List BlkM} (h : Own w0 w v bp bs) : Plp w v bs :=
  ⟨h.b, h.p, h.i, fun B hB => by have := (h.i B hB).le; unfold maxLen at this; omega⟩
set_option maxRecDepth 100000 in
set_option maxHeartbeats 4000000 in
theorem eqfunc_true (v1 v2 : Value) (bs cs : List BlkM) (w : World) (h1 : Plp w v1 bs) (h2 : Plp w v2 cs) (he : bs.map BlkM.ab = cs.map BlkM.ab) :
    Calls Tryd.prog 81 #[v1, v2, .func (.func 82) #[] #[]] w fun e w' => e = .returned (.bool true) ∧ Tch [] w w' := by
  have hl : cs.length = bs.length := by have := congrArg List.length he; simpa using this.symm
  have hle := h1.b.le
  unfold maxLen at hle
  obtain ⟨a1, c1, rfl⟩ := h1.b.shape
  obtain ⟨a2, c2, e2⟩ := h2.b.shape
  rw [hl] at e2
  subst e2
  have H1 := hid h1
  have H2 := hid h2
  have HE := hid he
  have HL := hid hl
  clear h1 h2 he hl
  go_enter Tryd.func81, Tryd.ntmps81
  go_wp2
  go_loopw [7, 8, 9, 17] (fun _ _ _ vi wr => ∃ k : Nat, vi = .int .i64 k ∧ k ≤ bs.length ∧ Hid (Tch [] w wr)) (fun _ _ _ vi _ => bs.length - (intOf vi).toNat)
  case atStart => exact ⟨0, rfl, Nat.zero_le _, Tch.refl _ _⟩
  case round =>
    obtain ⟨k, rfl, hk, HT⟩ := hrel
    by_cases hlt : k < bs.length
    · obtain ⟨b1, o1, d1, hv⟩ := H1.out.b.ptr (Nat.zero_lt_of_lt hlt)
      cases hv
      obtain ⟨b2, o2, d2, hv⟩ := H2.out.b.ptr (by rw [HL.out]; exact Nat.zero_lt_of_lt hlt)
      rw [HL.out] at hv
      cases hv
      obtain ⟨X, hX⟩ : ∃ x, bs[k]? = some x := ⟨bs[k], by simp [hlt]⟩
      obtain ⟨Y, hY⟩ : ∃ x, cs[k]? = some x := ⟨cs[k]'(by rw [HL.out]; exact hlt), by simp [HL.out, hlt]⟩
      have hxy : X.ab = Y.ab := by
        have h3 : (bs.map BlkM.ab)[k]? = some X.ab := by rw [List.getElem?_map, hX]; rfl
        have h4 : (cs.map BlkM.ab)[k]? = some Y.ab := by rw [List.getElem?_map, hY]; rfl
        rw [HE.out, h4] at h3
        exact (Option.some.inj h3).symm
      have mX := List.mem_of_getElem? hX
      have mY := List.mem_of_getElem? hY
      obtain ⟨p0, p1, p2, p3, p4, p5, p6⟩ := blk_at (H1.out.b.kept HT.out (by simp)) k hX
      obtain ⟨q0, q1, q2, q3, q4, q5, q6⟩ := blk_at (H2.out.b.kept HT.out (by simp)) k hY
      have lt1 : b1 < wr.heap.size := cell_lt p0
      have lt2 : b2 < wr.heap.size := cell_lt q0
      have sX := H1.out.i X mX
      have sY := H2.out.i Y mY
      have nX := H1.out.n X mX
      have eX := (H1.out.p X mX).1
      have eY := (H2.out.p Y mY).1
      obtain ⟨xl, xp, xq, xv, xi, xe, xa, xy, xn⟩ := X
      obtain ⟨yl, yp, yq, yv, yi, ye, ya, yy, yn⟩ := Y
      cases hxy
      dsimp only at *
      obtain ⟨ia, ic, e3⟩ := sX.shape
      obtain ⟨ib, jc, e4⟩ := sY.shape
      subst eX eY e3 e4
      have SX := hid sX
      have SY := hid sY
      clear sX sY mX mY hX hY
      go_wp2_with (first | (go_at_call 82; refine (sameC_true ia ib ic jc ⟨xl, xi, xe, xa, xy, xn⟩ _ nX ((SX.out.kept HT.out (by simp)).kept (((Tch.refl [] wr).alloc _).alloc _) (by simp)) ((SY.out.kept HT.out (by simp)).kept (((Tch.refl [] wr).alloc _).alloc _) (by simp))).mono ?_; rintro e W ⟨rfl, t1⟩; have T1 := hid (HT.out.trans ((((Tch.refl [] wr).alloc _).alloc _).trans t1)); clear t1))
      go_roundw
      case rel => exact ⟨k + 1, by go_num, by omega, T1.out⟩
      case measure => simp [intOf]; omega
    · obtain rfl : k = bs.length := by omega
      go_wp2
      go_ret
      exact ⟨rfl, HT.out⟩
set_option maxRecDepth 100000 in
set_option maxHeartbeats 4000000 in
/-- **Same**, of two that are. -/
theorem same_true (v1 v2 : Value) (bs cs : List BlkM) (w : World) (h1 : Plp w v1 bs) (h2 : Plp w v2 cs) (he : bs.map BlkM.ab = cs.map BlkM.ab) :
    Calls Tryd.prog 47 #[.agg #[v1], .agg #[v2]] w fun e w' => e = .returned (.bool true) ∧ Tch [] w w' := by
  have H1 := hid h1
  have H2 := hid h2
  have HE := hid he
  obtain ⟨a1, c1, e1⟩ := h1.b.shape
  obtain ⟨a2, c2, e2⟩ := h2.b.shape
  subst e1 e2
  clear h1 h2 he
  go_enter Tryd.func47, Tryd.ntmps47
  go_wp2_with (first | (go_at_call 81; refine (eqfunc_true _ _ bs cs _ (H1.out.tch (((Tch.refl [] w).alloc _).alloc _)) (H2.out.tch (((Tch.refl [] w).alloc _).alloc _)) HE.out).mono ?_; rintro e W ⟨rfl, t1⟩; have T1 := hid ((((Tch.refl [] w).alloc _).alloc _).trans t1); clear t1))
  go_ret
  exact ⟨rfl, T1.out⟩
end Go.Proofs.YtbdjpmmbnlmkhaaDoor

