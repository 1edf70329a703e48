/- Joined: Rdr, Rdt, Rds, Rde, Pmd, Pth, Wfd, Rdg. -/
import Derived.Test.YtbdjpmmbnlmkhaaDoorJt
import Derived.Deep.CutRange
import Derived.Test.YtbdjpmmbnlmkhaaDoorKb


/- parse.reader: what it keeps; now, tooGreat, fail. -/
set_option linter.unusedSimpArgs false
set_option linter.unusedVariables false
namespace Go.Proofs.YtbdjpmmbnlmkhaaDoor
open Go.RowKit Go.Sort

/-- Where a reader is; its first fault. -/
structure RS where
  nx : Nat
  pl : Int
  er : Int
/-- A register, a label, a slot that is too great. -/
def greatT (x : Ev) : Bool := decide ((x.k = 2 ∧ 100000 ≤ x.n) ∨ (x.k = 3 ∧ 100000 ≤ x.n) ∨ (x.k = 4 ∧ 16 ≤ x.n))
def RS.cells (v : Value) (st : RS) : Array Value := #[v, .int .i64 st.nx, .int .i64 st.pl, .int .i64 st.er]
theorem fm_getR {α : Type} {f : α → List Value} {sz : Nat} (hf : ∀ x, (f x).length = sz) : ∀ (l : List α) (i j : Nat) (x : α), l[i]? = some x → j < sz → (l.flatMap f)[i * sz + j]? = (f x)[j]?
  | [], i, j, x, h, _ => by simp at h
  | y :: r, 0, j, x, h, hj => by
    simp at h; subst h
    rw [List.flatMap_cons, List.getElem?_append_left (by rw [hf]; omega)]; simp
  | y :: r, i + 1, j, x, h, hj => by
    rw [List.flatMap_cons, List.getElem?_append_right (by rw [hf, Nat.add_mul]; omega), hf, show (i + 1) * sz + j - sz = i * sz + j by rw [Nat.add_mul]; omega]
    exact fm_getR hf r i j x (by simpa using h) hj
/-- What a fault makes of it. -/
def failS (ts : List Ev) (x : Ev) (st : RS) : RS := if st.er = 0 then ⟨ts.length - 1, x.p, if greatT x then 2 else 5⟩ else st
end Go.Proofs.YtbdjpmmbnlmkhaaDoor


/- parse.reader: take, reg, label, slot. -/
set_option linter.unusedSimpArgs false
set_option linter.unusedVariables false
namespace Go.Proofs.YtbdjpmmbnlmkhaaDoor
open Go.RowKit Go.Sort

/-- The last token alone is an End; it has no text. -/
structure Tks (ts : List Ev) : Prop where
  kind : ∀ (i : Nat) (x : Ev), ts[i]? = some x → x.k ≠ 0 → i + 1 < ts.length
  text : ∀ (i : Nat) (x : Ev), ts[i]? = some x → x.t ≠ [] → i + 1 < ts.length
def takeOk (k : Int) (x : Ev) : Bool := decide (x.k = k) && !greatT x
def RS.on (st : RS) : RS := ⟨st.nx + 1, st.pl, st.er⟩
def takeS (ts : List Ev) (k : Int) (x : Ev) (st : RS) : RS := if takeOk k x then st.on else failS ts x st
def takeV (k : Int) (x : Ev) : Int := if takeOk k x then x.n else 0
end Go.Proofs.YtbdjpmmbnlmkhaaDoor


/- parse.reader: reg, label, slot, has, sign, twoRegs, line. -/
set_option linter.unusedSimpArgs false
set_option linter.unusedVariables false
namespace Go.Proofs.YtbdjpmmbnlmkhaaDoor
open Go.RowKit Go.Sort

/-- The token here. -/
def curE (ts : List Ev) (st : RS) : Ev := ts[st.nx]?.getD ⟨0, 0, [], 0, 0⟩
def tkS (k : Int) (ts : List Ev) (st : RS) : RS := takeS ts k (curE ts st) st
def tkV (k : Int) (ts : List Ev) (st : RS) : Int := takeV k (curE ts st)
/-- Is it that word or sign? -/
def hasB (s : ByteArray) (ts : List Ev) (st : RS) : Bool := decide (bytesOf (curE ts st).t = s)
def hasS (s : ByteArray) (ts : List Ev) (st : RS) : RS := if hasB s ts st then st.on else st
def signS (s : ByteArray) (ts : List Ev) (st : RS) : RS := if hasB s ts st then st.on else failS ts (curE ts st) st
def comma : ByteArray := ⟨#[44]⟩
def twoS (ts : List Ev) (st : RS) : RS := tkS 2 ts (signS comma ts (tkS 2 ts st))
end Go.Proofs.YtbdjpmmbnlmkhaaDoor


/- parse.reader: emptyLines, line. -/
set_option linter.unusedSimpArgs false
set_option linter.unusedVariables false
namespace Go.Proofs.YtbdjpmmbnlmkhaaDoor
open Go.RowKit Go.Sort

def emF (ts : List Ev) : Nat → RS → RS
  | 0, st => st
  | f + 1, st => if (curE ts st).k = 7 then emF ts f st.on else st
/-- Where the reader is behind empty lines. -/
def emS (ts : List Ev) (st : RS) : RS := emF ts (ts.length - st.nx) st
theorem emS_on {ts : List Ev} {st : RS} (h : st.nx < ts.length) (hk : (curE ts st).k = 7) : emS ts st = emS ts st.on := by
  unfold emS
  rw [show ts.length - st.nx = (ts.length - (st.nx + 1)) + 1 by omega]
  show (if (curE ts st).k = 7 then emF ts (ts.length - (st.nx + 1)) st.on else st) = _
  rw [if_pos hk]
  rfl
theorem emS_off {ts : List Ev} {st : RS} (hk : ¬ (curE ts st).k = 7) : emS ts st = st := by
  unfold emS
  cases ts.length - st.nx with
  | zero => rfl
  | succ f => show (if (curE ts st).k = 7 then emF ts f st.on else st) = _; rw [if_neg hk]
/-- Where the world's reader is. -/
def nxAt (rb : Nat) (w : World) : Nat := match w.cell? ⟨rb, 1, none⟩ with | some (.int _ n) => n.toNat | _ => 0
def lineS (ts : List Ev) (st : RS) : RS := emS ts (tkS 7 ts st)
end Go.Proofs.YtbdjpmmbnlmkhaaDoor


/- What the reader makes of tokens, told plainly; that it ends. -/
set_option linter.unusedSimpArgs false
set_option linter.unusedVariables false
namespace Go.Proofs.YtbdjpmmbnlmkhaaDoor
open Go.RowKit Go.Sort

def sJump : ByteArray := ⟨#[106, 117, 109, 112]⟩
def sBr : ByteArray := ⟨#[98, 114]⟩
def sRet : ByteArray := ⟨#[114, 101, 116]⟩
def sTrap : ByteArray := ⟨#[116, 114, 97, 112]⟩
def sOut : ByteArray := ⟨#[111, 117, 116]⟩
def sStore : ByteArray := ⟨#[115, 116, 111, 114, 101]⟩
def sPut : ByteArray := ⟨#[112, 117, 116]⟩
def sIn : ByteArray := ⟨#[105, 110]⟩
def sLoad : ByteArray := ⟨#[108, 111, 97, 100]⟩
def sGet : ByteArray := ⟨#[103, 101, 116]⟩
def sEq : ByteArray := ⟨#[61]⟩
def sColon : ByteArray := ⟨#[58]⟩
/-- The words of ops. -/
def wordTab : List (List UInt8) := [[97, 100, 100], [115, 117, 98], [109, 117, 108], [100, 105, 118], [114, 101, 109], [97, 110, 100], [111, 114], [120, 111, 114], [115, 104, 108], [115, 104, 114], [101, 113], [108, 116]]
def findI (t : List UInt8) : Option Nat := wordTab.findIdx? (fun x => x == t)
def opV (ts : List Ev) (st : RS) : Int := match findI (curE ts st).t with | some i => (i : Int) | none => 0
def opS (ts : List Ev) (st : RS) : RS := match findI (curE ts st).t with | some _ => st.on | none => failS ts (curE ts st) st
/-- An end. -/
def lastD (ts : List Ev) (st : RS) : (Int × Int × Int × Int) × RS :=
  if hasB sJump ts st then ((0, 0, tkV 3 ts st.on, 0), tkS 3 ts st.on)
  else if hasB sBr ts st then ((1, tkV 2 ts st.on, tkV 3 ts (signS comma ts (tkS 2 ts st.on)), tkV 3 ts (signS comma ts (tkS 3 ts (signS comma ts (tkS 2 ts st.on))))), tkS 3 ts (signS comma ts (tkS 3 ts (signS comma ts (tkS 2 ts st.on)))))
  else if hasB sRet ts st then ((2, tkV 2 ts st.on, 0, 0), tkS 2 ts st.on)
  else if hasB sTrap ts st then ((3, 0, 0, 0), st.on)
  else ((0, 0, 0, 0), failS ts (curE ts st) st)
/-- What stands behind a register and its sign. -/
def setR (d : Int) (ts : List Ev) (st : RS) : InsM × RS :=
  if (curE ts st).k = 5 then (⟨0, 0, d, 0, 0, tkV 5 ts st, 0⟩, tkS 5 ts st)
  else if (curE ts st).k = 2 then (⟨1, 0, d, tkV 2 ts st, 0, 0, 0⟩, tkS 2 ts st)
  else if hasB sIn ts st then (⟨3, 0, d, 0, 0, 0, 0⟩, st.on)
  else if hasB sLoad ts st then (⟨5, 0, d, 0, 0, 0, tkV 4 ts st.on⟩, tkS 4 ts st.on)
  else if hasB sGet ts st then (⟨7, 0, d, tkV 2 ts st.on, 0, 0, 0⟩, tkS 2 ts st.on)
  else (⟨2, opV ts st, d, tkV 2 ts (opS ts st), tkV 2 ts (signS comma ts (tkS 2 ts (opS ts st))), 0, 0⟩, twoS ts (opS ts st))
def setD (ts : List Ev) (st : RS) : InsM × RS := setR (tkV 2 ts st) ts (signS sEq ts (tkS 2 ts st))
/-- An instruction, if one begins here. -/
def insD (ts : List Ev) (st : RS) : Option (InsM × RS) :=
  if (curE ts st).k = 2 then some (setD ts st)
  else if hasB sOut ts st then some (⟨4, 0, 0, tkV 2 ts st.on, 0, 0, 0⟩, tkS 2 ts st.on)
  else if hasB sStore ts st then some (⟨6, 0, 0, tkV 2 ts (signS comma ts (tkS 4 ts st.on)), 0, 0, tkV 4 ts st.on⟩, tkS 2 ts (signS comma ts (tkS 4 ts st.on)))
  else if hasB sPut ts st then some (⟨8, 0, 0, tkV 2 ts st.on, tkV 2 ts (signS comma ts (tkS 2 ts st.on)), 0, 0⟩, twoS ts st.on)
  else none
def insF (ts : List Ev) : Nat → RS → List InsM × RS
  | 0, st => ([], st)
  | f + 1, st => match insD ts st with
    | none => ([], st)
    | some (x, s1) => (x :: (insF ts f (lineS ts s1)).1, (insF ts f (lineS ts s1)).2)
def insL (ts : List Ev) (st : RS) : List InsM × RS := insF ts ts.length st
def endS (ts : List Ev) (st : RS) : RS := if (curE ts st).k = 0 then st else lineS ts st
def headS (ts : List Ev) (st : RS) : RS := lineS ts (signS sColon ts (tkS 3 ts st))
def blkD (ts : List Ev) (st : RS) : ABlk × RS :=
  let r := insL ts (headS ts st)
  let l := lastD ts r.2
  (⟨tkV 3 ts st, r.1, l.1.1, l.1.2.1, l.1.2.2.1, l.1.2.2.2⟩, endS ts l.2)
def blksF (ts : List Ev) : Nat → RS → List ABlk × RS
  | 0, st => ([], st)
  | f + 1, st => if (curE ts st).k = 0 then ([], st) else ((blkD ts st).1 :: (blksF ts f (blkD ts st).2).1, (blksF ts f (blkD ts st).2).2)
def progD (ts : List Ev) : List ABlk × RS := blksF ts ts.length (emS ts ⟨0, 0, 0⟩)

/-- Where a reader may be. -/
def InS (ts : List Ev) (st : RS) : Prop := st.nx < ts.length
theorem cur_get {ts : List Ev} {st : RS} (h : InS ts st) : ts[st.nx]? = some (curE ts st) := by
  unfold curE
  rw [List.getElem?_eq_getElem h]
  rfl
theorem fail_in {ts : List Ev} {st : RS} (h : InS ts st) (x : Ev) : InS ts (failS ts x st) ∧ st.nx ≤ (failS ts x st).nx := by
  unfold InS failS at *
  split
  · exact ⟨by show ts.length - 1 < _; omega, by show _ ≤ ts.length - 1; omega⟩
  · exact ⟨h, Nat.le_refl _⟩
theorem on_in {ts : List Ev} (ht : Tks ts) {st : RS} (h : InS ts st) (hc : (curE ts st).k ≠ 0 ∨ (curE ts st).t ≠ []) : InS ts st.on ∧ st.nx < st.on.nx := by
  have hg := cur_get h
  refine ⟨?_, Nat.lt_succ_self _⟩
  rcases hc with hc | hc
  · exact ht.kind _ _ hg hc
  · exact ht.text _ _ hg hc
theorem tk_in {ts : List Ev} (ht : Tks ts) {st : RS} (h : InS ts st) {k : Int} (hk : k ≠ 0) : InS ts (tkS k ts st) ∧ st.nx ≤ (tkS k ts st).nx := by
  unfold tkS takeS
  split
  · rename_i ho
    have hk' : (curE ts st).k = k := by unfold takeOk at ho; simp at ho; exact ho.1
    have := on_in ht h (.inl (by rw [hk']; exact hk))
    exact ⟨this.1, Nat.le_of_lt this.2⟩
  · exact fail_in h _
theorem has_text {s : ByteArray} (hs : s.size ≠ 0) {ts : List Ev} {st : RS} (h : hasB s ts st = true) : (curE ts st).t ≠ [] := by
  unfold hasB at h
  simp at h
  intro e
  rw [e] at h
  exact hs (by rw [← h]; rfl)
theorem sign_in {ts : List Ev} (ht : Tks ts) {st : RS} (h : InS ts st) {s : ByteArray} (hs : s.size ≠ 0) : InS ts (signS s ts st) ∧ st.nx ≤ (signS s ts st).nx := by
  unfold signS
  split
  · rename_i hb
    have := on_in ht h (.inr (has_text hs hb))
    exact ⟨this.1, Nat.le_of_lt this.2⟩
  · exact fail_in h _
theorem em_in {ts : List Ev} (ht : Tks ts) : ∀ (f : Nat) {st : RS}, InS ts st → InS ts (emF ts f st) ∧ st.nx ≤ (emF ts f st).nx
  | 0, st, h => ⟨h, Nat.le_refl _⟩
  | f + 1, st, h => by
    unfold emF
    split
    · rename_i hk
      have h1 := on_in ht h (.inl (by rw [hk]; decide))
      have h2 := em_in ht f h1.1
      exact ⟨h2.1, by omega⟩
    · exact ⟨h, Nat.le_refl _⟩
theorem line_in {ts : List Ev} (ht : Tks ts) {st : RS} (h : InS ts st) : InS ts (lineS ts st) ∧ st.nx ≤ (lineS ts st).nx := by
  have h1 := tk_in ht h (k := 7) (by decide)
  have h2 := em_in ht (ts.length - (tkS 7 ts st).nx) h1.1
  exact ⟨h2.1, Nat.le_trans h1.2 h2.2⟩
theorem op_in {ts : List Ev} (ht : Tks ts) {st : RS} (h : InS ts st) : InS ts (opS ts st) ∧ st.nx ≤ (opS ts st).nx := by
  unfold opS
  split
  · rename_i i hi
    have hne : (curE ts st).t ≠ [] := by
      intro e
      rw [e, show findI [] = none from rfl] at hi
      cases hi
    have := on_in ht h (.inr hne)
    exact ⟨this.1, Nat.le_of_lt this.2⟩
  · exact fail_in h _
theorem two_in {ts : List Ev} (ht : Tks ts) {st : RS} (h : InS ts st) : InS ts (twoS ts st) ∧ st.nx ≤ (twoS ts st).nx := by
  have h1 := tk_in ht h (k := 2) (by decide)
  have h2 := sign_in ht h1.1 (s := comma) (by decide)
  have h3 := tk_in ht h2.1 (k := 2) (by decide)
  exact ⟨h3.1, by have := h1.2; have := h2.2; have := h3.2; unfold twoS; omega⟩
theorem has_in {ts : List Ev} (ht : Tks ts) {st : RS} (h : InS ts st) {s : ByteArray} (hs : s.size ≠ 0) (hb : hasB s ts st = true) : InS ts st.on ∧ st.nx < st.on.nx := on_in ht h (.inr (has_text hs hb))
/-- A take at a token of that kind goes on, or to the end. -/
theorem tk_lt {ts : List Ev} (ht : Tks ts) {st : RS} (h : InS ts st) {k : Int} (hk : k ≠ 0) (hc : (curE ts st).k ≠ 0) (he : st.er = 0) : st.nx < (tkS k ts st).nx := by
  have hl := ht.kind _ _ (cur_get h) hc
  unfold tkS takeS
  split
  · exact Nat.lt_succ_self _
  · unfold failS
    rw [if_pos he]
    show st.nx < ts.length - 1
    omega
/-- Where there is a fault, the reader stands at the end. -/
def FinS (ts : List Ev) (st : RS) : Prop := st.er ≠ 0 → st.nx + 1 = ts.length
theorem cur_fin {ts : List Ev} (ht : Tks ts) {st : RS} (h : InS ts st) (hf : FinS ts st) (he : st.er ≠ 0) : (curE ts st).k = 0 ∧ (curE ts st).t = [] := by
  have hn := hf he
  have hg := cur_get h
  refine ⟨?_, ?_⟩
  · apply Classical.byContradiction
    intro hc
    have := ht.kind _ _ hg hc
    omega
  · apply Classical.byContradiction
    intro hc
    have := ht.text _ _ hg hc
    omega
/-- A reader that may be: somewhere, and at the end where there is a fault. -/
structure ROk (ts : List Ev) (st : RS) : Prop where
  i : InS ts st
  f : FinS ts st
theorem fail_ok {ts : List Ev} {st : RS} (h : ROk ts st) (x : Ev) : ROk ts (failS ts x st) := by
  refine ⟨(fail_in h.i x).1, ?_⟩
  have := h.i
  unfold InS at this
  unfold FinS failS
  split
  · intro _; show ts.length - 1 + 1 = _; omega
  · exact h.f
theorem on_ok {ts : List Ev} (ht : Tks ts) {st : RS} (h : ROk ts st) (hc : (curE ts st).k ≠ 0 ∨ (curE ts st).t ≠ []) : ROk ts st.on := by
  refine ⟨(on_in ht h.i hc).1, ?_⟩
  intro he
  have := cur_fin ht h.i h.f he
  rcases hc with hc | hc
  · exact absurd this.1 hc
  · exact absurd this.2 hc
theorem tk_ok {ts : List Ev} (ht : Tks ts) {st : RS} (h : ROk ts st) {k : Int} (hk : k ≠ 0) : ROk ts (tkS k ts st) := by
  unfold tkS takeS
  split
  · rename_i ho
    have hk' : (curE ts st).k = k := by unfold takeOk at ho; simp at ho; exact ho.1
    exact on_ok ht h (.inl (by rw [hk']; exact hk))
  · exact fail_ok h _
theorem sign_ok {ts : List Ev} (ht : Tks ts) {st : RS} (h : ROk ts st) {s : ByteArray} (hs : s.size ≠ 0) : ROk ts (signS s ts st) := by
  unfold signS
  split
  · rename_i hb
    exact on_ok ht h (.inr (has_text hs hb))
  · exact fail_ok h _
theorem emF_ok {ts : List Ev} (ht : Tks ts) : ∀ (f : Nat) {st : RS}, ROk ts st → ROk ts (emF ts f st)
  | 0, st, h => h
  | f + 1, st, h => by
    unfold emF
    split
    · rename_i hk
      exact emF_ok ht f (on_ok ht h (.inl (by rw [hk]; decide)))
    · exact h
theorem em_ok {ts : List Ev} (ht : Tks ts) {st : RS} (h : ROk ts st) : ROk ts (emS ts st) := emF_ok ht _ h
theorem line_ok' {ts : List Ev} (ht : Tks ts) {st : RS} (h : ROk ts st) : ROk ts (lineS ts st) := em_ok ht (tk_ok ht h (by decide))
theorem op_ok {ts : List Ev} (ht : Tks ts) {st : RS} (h : ROk ts st) : ROk ts (opS ts st) := by
  unfold opS
  split
  · rename_i i hi
    refine on_ok ht h (.inr ?_)
    intro e
    rw [e, show findI [] = none from rfl] at hi
    cases hi
  · exact fail_ok h _
theorem two_ok {ts : List Ev} (ht : Tks ts) {st : RS} (h : ROk ts st) : ROk ts (twoS ts st) := tk_ok ht (sign_ok ht (tk_ok ht h (by decide)) (by decide)) (by decide)
theorem has_ok {ts : List Ev} (ht : Tks ts) {st : RS} (h : ROk ts st) {s : ByteArray} (hs : s.size ≠ 0) (hb : hasB s ts st = true) : ROk ts st.on := on_ok ht h (.inr (has_text hs hb))
theorem last_okD {ts : List Ev} (ht : Tks ts) {st : RS} (h : ROk ts st) : ROk ts (lastD ts st).2 := by
  unfold lastD
  split
  · rename_i hb; exact tk_ok ht (has_ok ht h (by decide) hb) (by decide)
  split
  · rename_i hb; exact tk_ok ht (sign_ok ht (tk_ok ht (sign_ok ht (tk_ok ht (has_ok ht h (by decide) hb) (by decide)) (by decide)) (by decide)) (by decide)) (by decide)
  split
  · rename_i hb; exact tk_ok ht (has_ok ht h (by decide) hb) (by decide)
  split
  · rename_i hb; exact has_ok ht h (by decide) hb
  · exact fail_ok h _
theorem setR_ok {ts : List Ev} (ht : Tks ts) {st : RS} (h : ROk ts st) (d : Int) : ROk ts (setR d ts st).2 := by
  unfold setR
  split
  · exact tk_ok ht h (by decide)
  split
  · exact tk_ok ht h (by decide)
  split
  · rename_i hb; exact has_ok ht h (by decide) hb
  split
  · rename_i hb; exact tk_ok ht (has_ok ht h (by decide) hb) (by decide)
  split
  · rename_i hb; exact tk_ok ht (has_ok ht h (by decide) hb) (by decide)
  · exact two_ok ht (op_ok ht h)
theorem setR_in {ts : List Ev} (ht : Tks ts) {st : RS} (h : InS ts st) (d : Int) : st.nx ≤ (setR d ts st).2.nx := by
  unfold setR
  split
  · exact (tk_in ht h (by decide)).2
  split
  · exact (tk_in ht h (by decide)).2
  split
  · rename_i hb; exact Nat.le_of_lt (has_in ht h (by decide) hb).2
  split
  · rename_i hb; have h1 := has_in ht h (by decide) hb; have := (tk_in ht h1.1 (k := 4) (by decide)).2; show _ ≤ (tkS 4 ts st.on).nx; omega
  split
  · rename_i hb; have h1 := has_in ht h (by decide) hb; have := (tk_in ht h1.1 (k := 2) (by decide)).2; show _ ≤ (tkS 2 ts st.on).nx; omega
  · have h1 := op_in ht h; have := (two_in ht h1.1).2; show _ ≤ (twoS ts (opS ts st)).nx; omega
theorem ins_step {ts : List Ev} (ht : Tks ts) {st : RS} (h : ROk ts st) {x : InsM} {s1 : RS} (he : insD ts st = some (x, s1)) : ROk ts s1 ∧ st.nx < s1.nx := by
  unfold insD at he
  split at he
  · rename_i hk
    have hc : (curE ts st).k ≠ 0 := by rw [hk]; decide
    have h0 : st.er = 0 := by
      apply Classical.byContradiction
      intro hn
      exact hc (cur_fin ht h.i h.f hn).1
    have he2 : (setD ts st).2 = s1 := congrArg Prod.snd (Option.some.inj he)
    rw [← he2]
    have h1 := tk_ok ht h (k := 2) (by decide)
    have l1 := tk_lt ht h.i (k := 2) (by decide) hc h0
    have h2 := sign_ok ht h1 (s := sEq) (by decide)
    have l2 := (sign_in ht h1.i (s := sEq) (by decide)).2
    have h3 := setR_ok ht h2 (tkV 2 ts st)
    have l3 := setR_in ht h2.i (tkV 2 ts st)
    exact ⟨h3, by show st.nx < (setD ts st).2.nx; unfold setD; omega⟩
  split at he
  · rename_i hb
    cases he
    have h1 := has_ok ht h (by decide) hb
    have l1 := (has_in ht h.i (by decide) hb).2
    have l2 := (tk_in ht h1.i (k := 2) (by decide)).2
    exact ⟨tk_ok ht h1 (by decide), by omega⟩
  split at he
  · rename_i hb
    cases he
    have h1 := has_ok ht h (by decide) hb
    have l1 := (has_in ht h.i (by decide) hb).2
    have h2 := tk_ok ht h1 (k := 4) (by decide)
    have l2 := (tk_in ht h1.i (k := 4) (by decide)).2
    have h3 := sign_ok ht h2 (s := comma) (by decide)
    have l3 := (sign_in ht h2.i (s := comma) (by decide)).2
    have l4 := (tk_in ht h3.i (k := 2) (by decide)).2
    exact ⟨tk_ok ht h3 (by decide), by omega⟩
  split at he
  · rename_i hb
    cases he
    have h1 := has_ok ht h (by decide) hb
    have l1 := (has_in ht h.i (by decide) hb).2
    have l2 := (two_in ht h1.i).2
    exact ⟨two_ok ht h1, by omega⟩
  · cases he
theorem insF_more {ts : List Ev} (ht : Tks ts) : ∀ (f g : Nat) {st : RS}, ROk ts st → ts.length - st.nx ≤ f → ts.length - st.nx ≤ g → insF ts f st = insF ts g st
  | 0, g, st, h, hf, hg => by have := h.i; unfold InS at this; omega
  | f + 1, 0, st, h, hf, hg => by have := h.i; unfold InS at this; omega
  | f + 1, g + 1, st, h, hf, hg => by
    unfold insF
    cases he : insD ts st with
    | none => rfl
    | some r =>
      obtain ⟨x, s1⟩ := r
      have h1 := ins_step ht h he
      have h2 := line_in ht h1.1.i
      have := h.i
      unfold InS at this
      dsimp only
      rw [insF_more ht f g (line_ok' ht h1.1) (by omega) (by omega)]
theorem insL_none {ts : List Ev} {st : RS} (h : InS ts st) (he : insD ts st = none) : insL ts st = ([], st) := by
  unfold insL
  unfold InS at h
  obtain ⟨n, hn⟩ : ∃ n, ts.length = n + 1 := ⟨ts.length - 1, by omega⟩
  rw [hn]
  unfold insF
  rw [he]
theorem insL_some {ts : List Ev} (ht : Tks ts) {st : RS} (h : ROk ts st) {x : InsM} {s1 : RS} (he : insD ts st = some (x, s1)) : insL ts st = (x :: (insL ts (lineS ts s1)).1, (insL ts (lineS ts s1)).2) := by
  have h1 := ins_step ht h he
  have h2 := line_in ht h1.1.i
  have hi := h.i
  unfold InS at hi
  unfold insL
  obtain ⟨n, hn⟩ : ∃ n, ts.length = n + 1 := ⟨ts.length - 1, by omega⟩
  have hm := insF_more ht n ts.length (line_ok' ht h1.1) (by omega) (by omega)
  conv => lhs; rw [hn]; unfold insF
  rw [he]
  dsimp only
  rw [hm]
theorem insL_ok {ts : List Ev} (ht : Tks ts) : ∀ (n : Nat) {st : RS}, ROk ts st → ts.length - st.nx ≤ n → ROk ts (insL ts st).2 ∧ st.nx ≤ (insL ts st).2.nx
  | 0, st, h, hn => by have := h.i; unfold InS at this; omega
  | n + 1, st, h, hn => by
    cases he : insD ts st with
    | none => rw [insL_none h.i he]; exact ⟨h, Nat.le_refl _⟩
    | some r =>
      obtain ⟨x, s1⟩ := r
      have h1 := ins_step ht h he
      have h2 := line_in ht h1.1.i
      have := h.i
      unfold InS at this
      have h3 := insL_ok ht n (line_ok' ht h1.1) (by omega)
      rw [insL_some ht h he]
      exact ⟨h3.1, by show st.nx ≤ (insL ts (lineS ts s1)).2.nx; omega⟩
theorem end_ok {ts : List Ev} (ht : Tks ts) {st : RS} (h : ROk ts st) : ROk ts (endS ts st) := by
  unfold endS
  split
  · exact h
  · exact line_ok' ht h
theorem end_in {ts : List Ev} (ht : Tks ts) {st : RS} (h : InS ts st) : st.nx ≤ (endS ts st).nx := by
  unfold endS
  split
  · exact Nat.le_refl _
  · exact (line_in ht h).2
theorem last_in {ts : List Ev} (ht : Tks ts) {st : RS} (h : ROk ts st) : st.nx ≤ (lastD ts st).2.nx := by
  unfold lastD
  split
  · rename_i hb; have h1 := has_in ht h.i (by decide) hb; have := (tk_in ht h1.1 (k := 3) (by decide)).2; show _ ≤ (tkS 3 ts st.on).nx; omega
  split
  · rename_i hb
    have h1 := has_in ht h.i (by decide) hb
    have h2 := tk_in ht h1.1 (k := 2) (by decide)
    have h3 := sign_in ht h2.1 (s := comma) (by decide)
    have h4 := tk_in ht h3.1 (k := 3) (by decide)
    have h5 := sign_in ht h4.1 (s := comma) (by decide)
    have h6 := tk_in ht h5.1 (k := 3) (by decide)
    have := h2.2; have := h3.2; have := h4.2; have := h5.2; have := h6.2; dsimp only; omega
  split
  · rename_i hb; have h1 := has_in ht h.i (by decide) hb; have := (tk_in ht h1.1 (k := 2) (by decide)).2; show _ ≤ (tkS 2 ts st.on).nx; omega
  split
  · rename_i hb; exact Nat.le_of_lt (has_in ht h.i (by decide) hb).2
  · exact (fail_in h.i _).2
theorem head_ok {ts : List Ev} (ht : Tks ts) {st : RS} (h : ROk ts st) : ROk ts (headS ts st) := line_ok' ht (sign_ok ht (tk_ok ht h (by decide)) (by decide))
theorem head_lt {ts : List Ev} (ht : Tks ts) {st : RS} (h : ROk ts st) (hc : (curE ts st).k ≠ 0) : st.nx < (headS ts st).nx := by
  have h0 : st.er = 0 := by
    apply Classical.byContradiction
    intro hn
    exact hc (cur_fin ht h.i h.f hn).1
  have l1 := tk_lt ht h.i (k := 3) (by decide) hc h0
  have h1 := tk_in ht h.i (k := 3) (by decide)
  have h2 := sign_in ht h1.1 (s := sColon) (by decide)
  have h3 := line_in ht h2.1
  have := h2.2; have := h3.2
  unfold headS; omega
theorem blk_step {ts : List Ev} (ht : Tks ts) {st : RS} (h : ROk ts st) (hc : (curE ts st).k ≠ 0) : ROk ts (blkD ts st).2 ∧ st.nx < (blkD ts st).2.nx := by
  have h1 := head_ok ht h
  have l1 := head_lt ht h hc
  have h2 := insL_ok ht ts.length h1 (by omega)
  have h3 := last_okD ht h2.1
  have l3 := last_in ht h2.1
  have h4 := end_ok ht h3
  have l4 := end_in ht h3.i
  exact ⟨h4, by show st.nx < (endS ts (lastD ts (insL ts (headS ts st)).2).2).nx; have := h2.2; omega⟩
theorem blksF_more {ts : List Ev} (ht : Tks ts) : ∀ (f g : Nat) {st : RS}, ROk ts st → ts.length - st.nx ≤ f → ts.length - st.nx ≤ g → blksF ts f st = blksF ts g st
  | 0, g, st, h, hf, hg => by have := h.i; unfold InS at this; omega
  | f + 1, 0, st, h, hf, hg => by have := h.i; unfold InS at this; omega
  | f + 1, g + 1, st, h, hf, hg => by
    unfold blksF
    by_cases hc : (curE ts st).k = 0
    · rw [if_pos hc, if_pos hc]
    · have h1 := blk_step ht h hc
      have := h.i
      unfold InS at this
      rw [if_neg hc, if_neg hc, blksF_more ht f g h1.1 (by omega) (by omega)]
def blksL (ts : List Ev) (st : RS) : List ABlk × RS := blksF ts ts.length st
theorem blksL_end {ts : List Ev} {st : RS} (h : InS ts st) (hc : (curE ts st).k = 0) : blksL ts st = ([], st) := by
  unfold InS at h
  unfold blksL
  obtain ⟨n, hn⟩ : ∃ n, ts.length = n + 1 := ⟨ts.length - 1, by omega⟩
  rw [hn]
  unfold blksF
  rw [if_pos hc]
theorem blksL_step {ts : List Ev} (ht : Tks ts) {st : RS} (h : ROk ts st) (hc : (curE ts st).k ≠ 0) : blksL ts st = ((blkD ts st).1 :: (blksL ts (blkD ts st).2).1, (blksL ts (blkD ts st).2).2) := by
  have h1 := blk_step ht h hc
  have hi := h.i
  unfold InS at hi
  unfold blksL
  obtain ⟨n, hn⟩ : ∃ n, ts.length = n + 1 := ⟨ts.length - 1, by omega⟩
  have hm := blksF_more ht n ts.length h1.1 (by omega) (by omega)
  conv => lhs; rw [hn]; unfold blksF
  rw [if_neg hc, hm]
end Go.Proofs.YtbdjpmmbnlmkhaaDoor


/- A program's tokens are read as the program: told plainly. -/
set_option linter.unusedSimpArgs false
set_option linter.unusedVariables false
namespace Go.Proofs.YtbdjpmmbnlmkhaaDoor
open Go.RowKit Go.Sort

/-- A token, without where it stands. -/
structure Tk where
  k : Int
  t : List UInt8
  n : Int
def Ev.tk (x : Ev) : Tk := ⟨x.k, x.t, x.n⟩
def kR (r : Int) : Tk := ⟨2, [], r⟩
def kL (r : Int) : Tk := ⟨3, [], r⟩
def kS (r : Int) : Tk := ⟨4, [], r⟩
def kN (n : Int) : Tk := ⟨5, [], n⟩
def kG (c : UInt8) : Tk := ⟨6, [c], 0⟩
def kW (w : List UInt8) : Tk := ⟨1, w, 0⟩
def kNl : Tk := ⟨7, [], 0⟩
def kE : Tk := ⟨0, [], 0⟩
/-- No fault yet, and these come. -/
def At (ts : List Ev) (st : RS) (l : List Tk) : Prop := (ts.drop st.nx).map Ev.tk = l ∧ st.er = 0
theorem At.cons {ts : List Ev} {st : RS} {x : Tk} {l : List Tk} (h : At ts st (x :: l)) : (curE ts st).k = x.k ∧ (curE ts st).t = x.t ∧ (curE ts st).n = x.n ∧ At ts st.on l ∧ st.nx < ts.length := by
  obtain ⟨h1, h2⟩ := h
  have hlt : st.nx < ts.length := by
    apply Classical.byContradiction
    intro hn
    rw [List.drop_of_length_le (by omega)] at h1
    cases h1
  rw [List.drop_eq_getElem_cons hlt, List.map_cons] at h1
  obtain ⟨e1, e2⟩ := List.cons.inj h1
  have hc : curE ts st = ts[st.nx] := by unfold curE; rw [List.getElem?_eq_getElem hlt]; rfl
  rw [hc, ← e1]
  exact ⟨rfl, rfl, rfl, ⟨e2, h2⟩, hlt⟩
theorem tk_at {ts : List Ev} {st : RS} {x : Tk} {l : List Tk} (h : At ts st (x :: l)) (k : Int) (hk : x.k = k) (hg : ¬ ((k = 2 ∧ 100000 ≤ x.n) ∨ (k = 3 ∧ 100000 ≤ x.n) ∨ (k = 4 ∧ 16 ≤ x.n))) : tkV k ts st = x.n ∧ At ts (tkS k ts st) l := by
  obtain ⟨h1, h2, h3, h4, h5⟩ := h.cons
  have hgr : greatT (curE ts st) = false := by
    unfold greatT
    rw [h1, h3, hk]
    exact decide_eq_false hg
  have ho : takeOk k (curE ts st) = true := by
    unfold takeOk
    rw [h1, hgr, hk]
    simp
  unfold tkV tkS takeV takeS
  rw [if_pos ho, if_pos ho]
  exact ⟨h3, h4⟩
theorem has_at {ts : List Ev} {st : RS} {x : Tk} {l : List Tk} (h : At ts st (x :: l)) (s : ByteArray) : hasB s ts st = decide (bytesOf x.t = s) := by
  unfold hasB
  rw [h.cons.2.1]
theorem sign_at {ts : List Ev} {st : RS} {x : Tk} {l : List Tk} (h : At ts st (x :: l)) (s : ByteArray) (hs : bytesOf x.t = s) : At ts (signS s ts st) l := by
  unfold signS
  rw [has_at h, decide_eq_true hs, if_pos rfl]
  exact h.cons.2.2.2.1
def lJump : List UInt8 := [106, 117, 109, 112]
def lBr : List UInt8 := [98, 114]
def lRet : List UInt8 := [114, 101, 116]
def lTrap : List UInt8 := [116, 114, 97, 112]
def lOut : List UInt8 := [111, 117, 116]
def lStore : List UInt8 := [115, 116, 111, 114, 101]
def lPut : List UInt8 := [112, 117, 116]
def lIn : List UInt8 := [105, 110]
def lLoad : List UInt8 := [108, 111, 97, 100]
def lGet : List UInt8 := [103, 101, 116]
/-- An instruction's tokens. -/
def tkI (x : InsM) : List Tk :=
  if x.k = 0 then [kR x.d, kG 61, kN x.n] else if x.k = 1 then [kR x.d, kG 61, kR x.a]
  else if x.k = 2 then [kR x.d, kG 61, kW (wordTab.getD x.o.toNat []), kR x.a, kG 44, kR x.b]
  else if x.k = 3 then [kR x.d, kG 61, kW lIn] else if x.k = 5 then [kR x.d, kG 61, kW lLoad, kS x.s]
  else if x.k = 7 then [kR x.d, kG 61, kW lGet, kR x.a] else if x.k = 4 then [kW lOut, kR x.a]
  else if x.k = 6 then [kW lStore, kS x.s, kG 44, kR x.a] else [kW lPut, kR x.a, kG 44, kR x.b]
/-- An end's tokens. -/
def tkL (e a y n : Int) : List Tk :=
  if e = 0 then [kW lJump, kL y] else if e = 1 then [kW lBr, kR a, kG 44, kL y, kG 44, kL n] else if e = 2 then [kW lRet, kR a] else [kW lTrap]
/-- An instruction that may be. -/
inductive InsV : InsM → Prop
  | c (d n : Int) (hd : d < 100000) : InsV ⟨0, 0, d, 0, 0, n, 0⟩
  | p (d a : Int) (hd : d < 100000) (ha : a < 100000) : InsV ⟨1, 0, d, a, 0, 0, 0⟩
  | d (o : Nat) (d a b : Int) (ho : o < 12) (hd : d < 100000) (ha : a < 100000) (hb : b < 100000) : InsV ⟨2, o, d, a, b, 0, 0⟩
  | i (d : Int) (hd : d < 100000) : InsV ⟨3, 0, d, 0, 0, 0, 0⟩
  | o (a : Int) (ha : a < 100000) : InsV ⟨4, 0, 0, a, 0, 0, 0⟩
  | l (d s : Int) (hd : d < 100000) (hs : s < 16) : InsV ⟨5, 0, d, 0, 0, 0, s⟩
  | s (a s : Int) (ha : a < 100000) (hs : s < 16) : InsV ⟨6, 0, 0, a, 0, 0, s⟩
  | g (d a : Int) (hd : d < 100000) (ha : a < 100000) : InsV ⟨7, 0, d, a, 0, 0, 0⟩
  | u (a b : Int) (ha : a < 100000) (hb : b < 100000) : InsV ⟨8, 0, 0, a, b, 0, 0⟩
inductive LastV : Int → Int → Int → Int → Prop
  | j (y : Int) (hy : y < 100000) : LastV 0 0 y 0
  | b (a y n : Int) (ha : a < 100000) (hy : y < 100000) (hn : n < 100000) : LastV 1 a y n
  | r (a : Int) (ha : a < 100000) : LastV 2 a 0 0
  | t : LastV 3 0 0 0
theorem word_find : ∀ o : Fin 12, findI (wordTab.getD o.val []) = some o.val := by decide
theorem word_not : ∀ o : Fin 12, ∀ s ∈ [sIn, sLoad, sGet], decide (bytesOf (wordTab.getD o.val []) = s) = false := by decide
/-- A setting: register, sign. -/
theorem set_at {ts : List Ev} {st : RS} {d : Int} {l : List Tk} (hd : d < 100000) (h : At ts st (kR d :: kG 61 :: l)) : insD ts st = some (setR d ts (signS sEq ts (tkS 2 ts st))) ∧ At ts (signS sEq ts (tkS 2 ts st)) l := by
  have h1 := tk_at h 2 rfl (by show ¬ (((2 : Int) = 2 ∧ 100000 ≤ d) ∨ _ ∨ _); simp; omega)
  have h2 := sign_at h1.2 sEq rfl
  refine ⟨?_, h2⟩
  unfold insD
  rw [if_pos (show (curE ts st).k = 2 from h.cons.1)]
  unfold setD
  rw [h1.1]
  rfl
theorem two_at {ts : List Ev} {st : RS} {a b : Int} {l : List Tk} (ha : a < 100000) (hb : b < 100000) (h : At ts st (kR a :: kG 44 :: kR b :: l)) :
    tkV 2 ts st = a ∧ tkV 2 ts (signS comma ts (tkS 2 ts st)) = b ∧ At ts (twoS ts st) l := by
  have h1 := tk_at h 2 rfl (by show ¬ (((2 : Int) = 2 ∧ 100000 ≤ a) ∨ _ ∨ _); simp; omega)
  have h2 := sign_at h1.2 comma rfl
  have h3 := tk_at h2 2 rfl (by show ¬ (((2 : Int) = 2 ∧ 100000 ≤ b) ∨ _ ∨ _); simp; omega)
  exact ⟨h1.1, h3.1, h3.2⟩
theorem reg_at {ts : List Ev} {st : RS} {a : Int} {l : List Tk} (ha : a < 100000) (h : At ts st (kR a :: l)) : tkV 2 ts st = a ∧ At ts (tkS 2 ts st) l :=
  tk_at h 2 rfl (by show ¬ (((2 : Int) = 2 ∧ 100000 ≤ a) ∨ _ ∨ _); simp; omega)
theorem lab_at {ts : List Ev} {st : RS} {a : Int} {l : List Tk} (ha : a < 100000) (h : At ts st (kL a :: l)) : tkV 3 ts st = a ∧ At ts (tkS 3 ts st) l :=
  tk_at h 3 rfl (by show ¬ (_ ∨ ((3 : Int) = 3 ∧ 100000 ≤ a) ∨ _); simp; omega)
theorem slot_at {ts : List Ev} {st : RS} {a : Int} {l : List Tk} (ha : a < 16) (h : At ts st (kS a :: l)) : tkV 4 ts st = a ∧ At ts (tkS 4 ts st) l :=
  tk_at h 4 rfl (by show ¬ (_ ∨ _ ∨ ((4 : Int) = 4 ∧ 16 ≤ a)); simp; omega)
theorem num_at {ts : List Ev} {st : RS} {a : Int} {l : List Tk} (h : At ts st (kN a :: l)) : tkV 5 ts st = a ∧ At ts (tkS 5 ts st) l :=
  tk_at h 5 rfl (by simp)
/-- An instruction is read. -/
theorem tin_at {ts : List Ev} {st : RS} {x : InsM} {l : List Tk} (hx : InsV x) (h : At ts st (tkI x ++ l)) : ∃ s1, insD ts st = some (x, s1) ∧ At ts s1 l := by
  cases hx with
  | c d n hd =>
    obtain ⟨h1, h2⟩ := set_at hd h
    have h3 := num_at h2
    refine ⟨_, ?_, h3.2⟩
    rw [h1]; unfold setR; rw [if_pos (show (curE ts (signS sEq ts (tkS 2 ts st))).k = 5 from h2.cons.1), h3.1]
  | p d a hd ha =>
    obtain ⟨h1, h2⟩ := set_at hd h
    have h3 := reg_at ha h2
    refine ⟨_, ?_, h3.2⟩
    rw [h1]; unfold setR; rw [if_neg (by rw [show (curE ts (signS sEq ts (tkS 2 ts st))).k = 2 from h2.cons.1]; decide), if_pos (show (curE ts (signS sEq ts (tkS 2 ts st))).k = 2 from h2.cons.1), h3.1]
  | d o d a b ho hd ha hb =>
    have h' : At ts st (kR d :: kG 61 :: kW (wordTab.getD o []) :: kR a :: kG 44 :: kR b :: l) := h
    obtain ⟨h1, h2⟩ := set_at hd h'
    have hf := word_find ⟨o, ho⟩
    have hn := word_not ⟨o, ho⟩
    have ht : (curE ts (signS sEq ts (tkS 2 ts st))).t = wordTab.getD o [] := h2.cons.2.1
    have hk1 : (curE ts (signS sEq ts (tkS 2 ts st))).k = 1 := h2.cons.1
    have hh : ∀ s ∈ [sIn, sLoad, sGet], hasB s ts (signS sEq ts (tkS 2 ts st)) = false := fun s hs => (has_at h2 s).trans (hn s hs)
    have e1 : opV ts (signS sEq ts (tkS 2 ts st)) = (o : Int) := by unfold opV; rw [ht, hf]
    have e2 : opS ts (signS sEq ts (tkS 2 ts st)) = (signS sEq ts (tkS 2 ts st)).on := by unfold opS; rw [ht, hf]
    obtain ⟨h3, h4, h5⟩ := two_at ha hb h2.cons.2.2.2.1
    refine ⟨_, ?_, h5⟩
    rw [h1]; unfold setR
    rw [if_neg (by rw [hk1]; decide), if_neg (by rw [hk1]; decide), hh sIn (by simp), hh sLoad (by simp), hh sGet (by simp), e1, e2, h3, h4]
    rfl
  | i d hd =>
    obtain ⟨h1, h2⟩ := set_at hd h
    refine ⟨_, ?_, h2.cons.2.2.2.1⟩
    rw [h1]; unfold setR; rw [if_neg (by rw [h2.cons.1]; decide), if_neg (by rw [h2.cons.1]; decide), has_at h2, if_pos (by decide)]
  | l d s hd hs =>
    obtain ⟨h1, h2⟩ := set_at hd h
    have h3 := slot_at hs h2.cons.2.2.2.1
    refine ⟨_, ?_, h3.2⟩
    rw [h1]; unfold setR; rw [if_neg (by rw [h2.cons.1]; decide), if_neg (by rw [h2.cons.1]; decide), has_at h2, has_at h2, if_neg (by decide), if_pos (by decide), h3.1]
  | g d a hd ha =>
    obtain ⟨h1, h2⟩ := set_at hd h
    have h3 := reg_at ha h2.cons.2.2.2.1
    refine ⟨_, ?_, h3.2⟩
    rw [h1]; unfold setR; rw [if_neg (by rw [h2.cons.1]; decide), if_neg (by rw [h2.cons.1]; decide), has_at h2, has_at h2, has_at h2, if_neg (by decide), if_neg (by decide), if_pos (by decide), h3.1]
  | o a ha =>
    have h' : At ts st (kW lOut :: kR a :: l) := h
    have h3 := reg_at ha h'.cons.2.2.2.1
    refine ⟨_, ?_, h3.2⟩
    unfold insD; rw [if_neg (by rw [h'.cons.1]; decide), has_at h', if_pos (by decide), h3.1]
  | s a s ha hs =>
    have h' : At ts st (kW lStore :: kS s :: kG 44 :: kR a :: l) := h
    have h3 := slot_at hs h'.cons.2.2.2.1
    have h4 := sign_at h3.2 comma rfl
    have h5 := reg_at ha h4
    refine ⟨_, ?_, h5.2⟩
    unfold insD; rw [if_neg (by rw [h'.cons.1]; decide), has_at h', has_at h', if_neg (by decide), if_pos (by decide), h3.1, h5.1]
  | u a b ha hb =>
    have h' : At ts st (kW lPut :: kR a :: kG 44 :: kR b :: l) := h
    obtain ⟨h3, h4, h5⟩ := two_at ha hb h'.cons.2.2.2.1
    refine ⟨_, ?_, h5⟩
    unfold insD; rw [if_neg (by rw [h'.cons.1]; decide), has_at h', has_at h', has_at h', if_neg (by decide), if_neg (by decide), if_pos (by decide), h3, h4]
/-- An end is no instruction, and is read. -/
theorem last_at {ts : List Ev} {st : RS} {e a y n : Int} {l : List Tk} (hv : LastV e a y n) (h : At ts st (tkL e a y n ++ l)) : insD ts st = none ∧ ∃ s1, lastD ts st = ((e, a, y, n), s1) ∧ At ts s1 l := by
  cases hv with
  | j _ hy =>
    have h' : At ts st (kW lJump :: kL y :: l) := h
    have h3 := lab_at hy h'.cons.2.2.2.1
    refine ⟨?_, _, ?_, h3.2⟩
    · unfold insD; rw [if_neg (by rw [h'.cons.1]; decide), has_at h', has_at h', has_at h', if_neg (by decide), if_neg (by decide), if_neg (by decide)]
    · unfold lastD; rw [has_at h', if_pos (by decide), h3.1]
  | b _ _ _ ha hy hn =>
    have h' : At ts st (kW lBr :: kR a :: kG 44 :: kL y :: kG 44 :: kL n :: l) := h
    have h3 := reg_at ha h'.cons.2.2.2.1
    have h4 := sign_at h3.2 comma rfl
    have h5 := lab_at hy h4
    have h6 := sign_at h5.2 comma rfl
    have h7 := lab_at hn h6
    refine ⟨?_, _, ?_, h7.2⟩
    · unfold insD; rw [if_neg (by rw [h'.cons.1]; decide), has_at h', has_at h', has_at h', if_neg (by decide), if_neg (by decide), if_neg (by decide)]
    · unfold lastD; rw [has_at h', has_at h', if_neg (by decide), if_pos (by decide), h3.1, h5.1, h7.1]
  | r _ ha =>
    have h' : At ts st (kW lRet :: kR a :: l) := h
    have h3 := reg_at ha h'.cons.2.2.2.1
    refine ⟨?_, _, ?_, h3.2⟩
    · unfold insD; rw [if_neg (by rw [h'.cons.1]; decide), has_at h', has_at h', has_at h', if_neg (by decide), if_neg (by decide), if_neg (by decide)]
    · unfold lastD; rw [has_at h', has_at h', has_at h', if_neg (by decide), if_neg (by decide), if_pos (by decide), h3.1]
  | t =>
    have h' : At ts st (kW lTrap :: l) := h
    refine ⟨?_, _, ?_, h'.cons.2.2.2.1⟩
    · unfold insD; rw [if_neg (by rw [h'.cons.1]; decide), has_at h', has_at h', has_at h', if_neg (by decide), if_neg (by decide), if_neg (by decide)]
    · unfold lastD; rw [has_at h', has_at h', has_at h', has_at h', if_neg (by decide), if_neg (by decide), if_neg (by decide), if_pos (by decide)]
/-- The same tokens, but that some ends of lines stand twice. -/
inductive Spr : List Tk → List Tk → Prop
  | nil : Spr [] []
  | one (x : Tk) {l m : List Tk} (h : Spr l m) : Spr (x :: l) (x :: m)
  | two {l m : List Tk} (h : Spr l m) : Spr (kNl :: l) (kNl :: kNl :: m)
theorem Spr.refl : ∀ l : List Tk, Spr l l
  | [] => .nil
  | x :: l => .one x (Spr.refl l)
theorem Spr.app {l m l' m' : List Tk} (h : Spr l m) (k : Spr l' m') : Spr (l ++ l') (m ++ m') := by
  induction h with
  | nil => exact k
  | one x _ ih => exact .one x ih
  | two _ ih => exact .two ih
theorem Spr.cons {x : Tk} {l m : List Tk} (h : Spr (x :: l) m) (hx : x.k ≠ 7) : ∃ m', m = x :: m' ∧ Spr l m' := by
  cases h with
  | one _ h => exact ⟨_, rfl, h⟩
  | two h => exact absurd rfl hx
theorem Spr.line {l m : List Tk} (h : Spr (kNl :: l) m) : ∃ m', (m = kNl :: m' ∨ m = kNl :: kNl :: m') ∧ Spr l m' := by
  cases h with
  | one _ h => exact ⟨_, .inl rfl, h⟩
  | two h => exact ⟨_, .inr rfl, h⟩
theorem Spr.pre {a l m : List Tk} (ha : ∀ y ∈ a, y.k ≠ 7) (h : Spr (a ++ l) m) : ∃ m', m = a ++ m' ∧ Spr l m' := by
  induction a generalizing m with
  | nil => exact ⟨m, rfl, h⟩
  | cons x r ih =>
    obtain ⟨m1, rfl, h1⟩ := Spr.cons h (ha x (by simp))
    obtain ⟨m2, rfl, h2⟩ := ih (fun y hy => ha y (by simp [hy])) h1
    exact ⟨m2, rfl, h2⟩
/-- What comes begins no line's end. -/
def NoNl (l : List Tk) : Prop := ∃ x r, l = x :: r ∧ x.k ≠ 7
theorem em_at {ts : List Ev} {st : RS} {l m : List Tk} (h : At ts st m) (hs : Spr l m) (hl : NoNl l) : emS ts st = st := by
  obtain ⟨x, r, rfl, hx⟩ := hl
  obtain ⟨m', rfl, _⟩ := hs.cons hx
  exact emS_off (by rw [h.cons.1]; exact hx)
theorem nl_at {ts : List Ev} {st : RS} {m : List Tk} (h : At ts st (kNl :: m)) : At ts (tkS 7 ts st) m ∧ emS ts st = emS ts st.on := by
  exact ⟨(tk_at h 7 rfl (by simp)).2, emS_on h.cons.2.2.2.2 h.cons.1⟩
theorem line_at {ts : List Ev} {st : RS} {l m : List Tk} (h : At ts st m) (hs : Spr (kNl :: l) m) (hl : NoNl l) : ∃ m', At ts (lineS ts st) m' ∧ Spr l m' := by
  obtain ⟨m', rfl | rfl, hs'⟩ := hs.line
  · have h1 := (nl_at h).1
    unfold lineS
    rw [em_at h1 hs' hl]
    exact ⟨m', h1, hs'⟩
  · have h1 := (nl_at h).1
    have h2 := nl_at h1
    unfold lineS
    rw [h2.2, em_at h1.cons.2.2.2.1 hs' hl]
    exact ⟨m', h1.cons.2.2.2.1, hs'⟩
theorem tkI_nl {x : InsM} (h : InsV x) : ∀ y ∈ tkI x, y.k ≠ 7 := by
  cases h <;> (intro y hy; simp only [tkI, List.mem_cons, List.not_mem_nil, or_false, if_true, if_false, Int.reduceEq, reduceIte] at hy)
  all_goals (rcases hy with rfl | rfl | rfl | rfl | rfl | rfl) <;> simp [kR, kG, kN, kW, kS]
theorem tkL_nl {e a y n : Int} (h : LastV e a y n) : ∀ z ∈ tkL e a y n, z.k ≠ 7 := by
  cases h <;> (intro y hy; simp only [tkL, List.mem_cons, List.not_mem_nil, or_false, if_true, if_false, Int.reduceEq, reduceIte] at hy)
  all_goals (rcases hy with rfl | rfl | rfl | rfl | rfl | rfl) <;> simp [kR, kG, kW, kL]
theorem tkI_no {x : InsM} (h : InsV x) (l : List Tk) : NoNl (tkI x ++ l) := by
  cases h <;> exact ⟨_, _, rfl, by simp [kR, kW]⟩
theorem tkL_no {e a y n : Int} (h : LastV e a y n) (l : List Tk) : NoNl (tkL e a y n ++ l) := by
  cases h <;> exact ⟨_, _, rfl, by simp [kW]⟩
/-- Lines of instructions. -/
def tkIs (l : List InsM) : List Tk := l.flatMap fun x => tkI x ++ [kNl]
theorem tkIs_cons (x : InsM) (l : List InsM) : tkIs (x :: l) = tkI x ++ kNl :: tkIs l := by simp [tkIs]
theorem tkIs_no {l : List InsM} (h : ∀ x ∈ l, InsV x) {r : List Tk} (hr : NoNl r) : NoNl (tkIs l ++ r) := by
  cases l with
  | nil => exact hr
  | cons x l =>
    rw [tkIs_cons, List.append_assoc]
    exact tkI_no (h x (by simp)) _
theorem At.ok {ts : List Ev} {st : RS} {x : Tk} {l : List Tk} (h : At ts st (x :: l)) : ROk ts st := ⟨h.cons.2.2.2.2, fun he => absurd h.2 he⟩
theorem NoNl.ok {ts : List Ev} {st : RS} {l m : List Tk} (hl : NoNl l) (hs : Spr l m) (h : At ts st m) : ROk ts st := by
  obtain ⟨x, r, rfl, hx⟩ := hl
  obtain ⟨m', rfl, _⟩ := hs.cons hx
  exact h.ok
/-- Lines of instructions are read, up to an end. -/
theorem inss_at {ts : List Ev} (ht : Tks ts) {e a y n : Int} (hv : LastV e a y n) {r : List Tk} : ∀ (l : List InsM) {st : RS} {m : List Tk}, (∀ x ∈ l, InsV x) → At ts st m → Spr (tkIs l ++ (tkL e a y n ++ r)) m →
    ∃ s1 m1, insL ts st = (l, s1) ∧ At ts s1 (tkL e a y n ++ m1) ∧ Spr r m1
  | [], st, m, hl, h, hs => by
    obtain ⟨m1, rfl, h1⟩ := Spr.pre (tkL_nl hv) (show Spr (tkL e a y n ++ r) m from hs)
    have hn := (last_at hv h).1
    have hi : InS ts st := by
      obtain ⟨x, q, e1, _⟩ := tkL_no hv m1
      rw [e1] at h
      exact h.cons.2.2.2.2
    exact ⟨st, m1, insL_none hi hn, h, h1⟩
  | x :: l, st, m, hl, h, hs => by
    have hx := hl x (by simp)
    rw [tkIs_cons, List.append_assoc] at hs
    obtain ⟨m1, rfl, h1⟩ := Spr.pre (tkI_nl hx) hs
    obtain ⟨s1, e1, a1⟩ := tin_at hx h
    have hl' : ∀ z ∈ l, InsV z := fun z hz => hl z (by simp [hz])
    obtain ⟨m2, a2, h2⟩ := line_at a1 h1 (tkIs_no hl' (tkL_no hv r))
    obtain ⟨s3, m3, e3, a3, h3⟩ := inss_at ht hv l hl' a2 h2
    have hr : ROk ts st := by
      obtain ⟨q, q2, e4, _⟩ := tkI_no hx m1
      rw [e4] at h
      exact h.ok
    refine ⟨s3, m3, ?_, a3, h3⟩
    rw [insL_some ht hr e1, e3]
/-- A block's tokens, but the last line's end. -/
def tkB (b : ABlk) : List Tk := kL b.lab :: kG 58 :: kNl :: (tkIs b.ins ++ tkL b.e b.a b.y b.n)
structure BlkV (b : ABlk) : Prop where
  l : b.lab < 100000
  i : ∀ x ∈ b.ins, InsV x
  e : LastV b.e b.a b.y b.n
theorem tkB_no (b : ABlk) (l : List Tk) : NoNl (tkB b ++ l) := ⟨_, _, rfl, by simp [kL]⟩
/-- A block is read: up to its end. -/
theorem blk0_at {ts : List Ev} (ht : Tks ts) {b : ABlk} (hb : BlkV b) {r : List Tk} {st : RS} {m : List Tk} (h : At ts st m) (hs : Spr (tkB b ++ r) m) :
    ∃ s1 m1, blkD ts st = (b, endS ts s1) ∧ At ts s1 m1 ∧ Spr r m1 := by
  obtain ⟨m1, rfl, h1⟩ := Spr.cons (show Spr (kL b.lab :: (kG 58 :: kNl :: (tkIs b.ins ++ tkL b.e b.a b.y b.n) ++ r)) m from hs) (by simp [kL])
  obtain ⟨m2, rfl, h2⟩ := Spr.cons (show Spr (kG 58 :: (kNl :: (tkIs b.ins ++ tkL b.e b.a b.y b.n) ++ r)) m1 from h1) (by simp [kG])
  have a1 := lab_at hb.l h
  have a2 := sign_at a1.2 sColon rfl
  rw [List.cons_append, List.append_assoc] at h2
  obtain ⟨m3, a3, h3⟩ := line_at a2 h2 (tkIs_no hb.i (tkL_no hb.e r))
  obtain ⟨s4, m4, e4, a4, h4⟩ := inss_at ht hb.e b.ins hb.i a3 h3
  obtain ⟨_, s5, e5, a5⟩ := last_at hb.e a4
  refine ⟨s5, m4, ?_, a5, h4⟩
  unfold blkD headS
  dsimp only
  rw [e4]
  dsimp only
  rw [e5, a1.1]
/-- A program's tokens; the last line's end may be left out. -/
def tkP (cut : Bool) : List ABlk → List Tk
  | [] => [kE]
  | b :: r => tkB b ++ (if cut = true ∧ r = [] then [kE] else kNl :: tkP cut r)
theorem tkP_no (cut : Bool) : ∀ P, NoNl (tkP cut P)
  | [] => ⟨_, _, rfl, by simp [kE]⟩
  | b :: r => tkB_no b _
theorem prog_at {ts : List Ev} (ht : Tks ts) (cut : Bool) : ∀ (P : List ABlk) {st : RS} {m : List Tk}, (∀ b ∈ P, BlkV b) → At ts st m → Spr (tkP cut P) m → ∃ s1, blksL ts st = (P, s1) ∧ s1.er = 0
  | [], st, m, hP, h, hs => by
    obtain ⟨m1, rfl, h1⟩ := Spr.cons (show Spr (kE :: []) m from hs) (by simp [kE])
    exact ⟨st, blksL_end h.cons.2.2.2.2 h.cons.1, h.2⟩
  | b :: r, st, m, hP, h, hs => by
    have hr := (tkP_no cut (b :: r)).ok hs h
    have hc : (curE ts st).k ≠ 0 := by
      obtain ⟨m1, rfl, h1⟩ := Spr.cons (show Spr (kL b.lab :: _) m from hs) (by simp [kL])
      rw [h.cons.1]; simp [kL]
    obtain ⟨s1, m1, e1, a1, h1⟩ := blk0_at ht (hP b (by simp)) h hs
    by_cases hcut : cut = true ∧ r = []
    · rw [if_pos hcut] at h1
      obtain ⟨m2, rfl, h2⟩ := Spr.cons (show Spr (kE :: []) m1 from h1) (by simp [kE])
      have ee : endS ts s1 = s1 := by unfold endS; rw [if_pos (show (curE ts s1).k = 0 from a1.cons.1)]
      refine ⟨s1, ?_, a1.2⟩
      rw [blksL_step ht hr hc, e1, ee]
      dsimp only
      rw [blksL_end a1.cons.2.2.2.2 a1.cons.1, hcut.2]
    · rw [if_neg hcut] at h1
      have ee : endS ts s1 = lineS ts s1 := by
        unfold endS
        obtain ⟨m2, e2, _⟩ := h1.line
        rw [if_neg]
        rcases e2 with rfl | rfl
        · rw [a1.cons.1]; simp [kNl]
        · rw [a1.cons.1]; simp [kNl]
      obtain ⟨m2, a2, h2⟩ := line_at a1 h1 (tkP_no cut r)
      obtain ⟨s3, e3, h3⟩ := prog_at ht cut r (fun x hx => hP x (by simp [hx])) a2 h2
      refine ⟨s3, ?_, h3⟩
      rw [blksL_step ht hr hc, e1, ee]
      dsimp only
      rw [e3]
/-- **A program's tokens are read as the program.** -/
theorem progD_at {ts : List Ev} (ht : Tks ts) (cut : Bool) {P : List ABlk} (hP : ∀ b ∈ P, BlkV b) (h : Spr (tkP cut P) (ts.map Ev.tk)) : ∃ s1, progD ts = (P, s1) ∧ s1.er = 0 := by
  have ha : At ts ⟨0, 0, 0⟩ (ts.map Ev.tk) := ⟨by rw [List.drop_zero], rfl⟩
  have he := em_at ha h (tkP_no cut P)
  unfold progD
  rw [he]
  exact prog_at ht cut P hP ha h
end Go.Proofs.YtbdjpmmbnlmkhaaDoor


/- What a call of word's Find comes to: the place of a word in the table, or no place; in every world in which the table lies whole as it was laid. -/
set_option linter.unusedSimpArgs false
set_option linter.unusedVariables false
namespace Go.Proofs.YtbdjpmmbnlmkhaaDoor
open Go.RowKit Go.Sort

def wordS (i : Nat) : ByteArray := bytesOf (wordTab.getD i [])
def wordsA : Array Value := #[.string (wordS 0), .string (wordS 1), .string (wordS 2), .string (wordS 3), .string (wordS 4), .string (wordS 5), .string (wordS 6), .string (wordS 7), .string (wordS 8), .string (wordS 9), .string (wordS 10), .string (wordS 11)]
/-- Word's table lies whole where it was laid. -/
def WordsH (w : World) : Prop := ∃ t fr, w.heap[1]? = some (.cells wordsA t fr)
theorem WordsH.tch {w w' : World} {S : List Nat} (h : WordsH w) (t : Tch S w w') (hn : ¬ 1 ∈ S) : WordsH w' := by
  obtain ⟨a, b, h⟩ := h
  exact ⟨a, b, t.obj h hn⟩
theorem WordsH.pos {w : World} (h : WordsH w) : 1 < w.heap.size := by
  obtain ⟨a, b, h⟩ := h
  exact lt_of_obj h
theorem below12 {j : Nat} (h : j < 12) : j = 0 ∨ j = 1 ∨ j = 2 ∨ j = 3 ∨ j = 4 ∨ j = 5 ∨ j = 6 ∨ j = 7 ∨ j = 8 ∨ j = 9 ∨ j = 10 ∨ j = 11 := by omega
theorem index_words (j : Nat) (h : j < 12) (w : World) : (Instr.index 170 (.agg wordsA) (.int .i64 j)).run Tryd.prog w = .ok (.string (wordS j)) w := by
  have i0 : ∀ w : World, (Instr.index 170 (.agg wordsA) (.int .i64 0)).run Tryd.prog w = .ok (.string (wordS 0)) w := fun _ => by kernel_rfl
  have i1 : ∀ w : World, (Instr.index 170 (.agg wordsA) (.int .i64 1)).run Tryd.prog w = .ok (.string (wordS 1)) w := fun _ => by kernel_rfl
  have i2 : ∀ w : World, (Instr.index 170 (.agg wordsA) (.int .i64 2)).run Tryd.prog w = .ok (.string (wordS 2)) w := fun _ => by kernel_rfl
  have i3 : ∀ w : World, (Instr.index 170 (.agg wordsA) (.int .i64 3)).run Tryd.prog w = .ok (.string (wordS 3)) w := fun _ => by kernel_rfl
  have i4 : ∀ w : World, (Instr.index 170 (.agg wordsA) (.int .i64 4)).run Tryd.prog w = .ok (.string (wordS 4)) w := fun _ => by kernel_rfl
  have i5 : ∀ w : World, (Instr.index 170 (.agg wordsA) (.int .i64 5)).run Tryd.prog w = .ok (.string (wordS 5)) w := fun _ => by kernel_rfl
  have i6 : ∀ w : World, (Instr.index 170 (.agg wordsA) (.int .i64 6)).run Tryd.prog w = .ok (.string (wordS 6)) w := fun _ => by kernel_rfl
  have i7 : ∀ w : World, (Instr.index 170 (.agg wordsA) (.int .i64 7)).run Tryd.prog w = .ok (.string (wordS 7)) w := fun _ => by kernel_rfl
  have i8 : ∀ w : World, (Instr.index 170 (.agg wordsA) (.int .i64 8)).run Tryd.prog w = .ok (.string (wordS 8)) w := fun _ => by kernel_rfl
  have i9 : ∀ w : World, (Instr.index 170 (.agg wordsA) (.int .i64 9)).run Tryd.prog w = .ok (.string (wordS 9)) w := fun _ => by kernel_rfl
  have i10 : ∀ w : World, (Instr.index 170 (.agg wordsA) (.int .i64 10)).run Tryd.prog w = .ok (.string (wordS 10)) w := fun _ => by kernel_rfl
  have i11 : ∀ w : World, (Instr.index 170 (.agg wordsA) (.int .i64 11)).run Tryd.prog w = .ok (.string (wordS 11)) w := fun _ => by kernel_rfl
  rcases below12 h with rfl | rfl | rfl | rfl | rfl | rfl | rfl | rfl | rfl | rfl | rfl | rfl
  · exact i0 w
  · exact i1 w
  · exact i2 w
  · exact i3 w
  · exact i4 w
  · exact i5 w
  · exact i6 w
  · exact i7 w
  · exact i8 w
  · exact i9 w
  · exact i10 w
  · exact i11 w
theorem strl_ne {p q : ByteArray} (h : ¬ p = q) : (p.toList == q.toList) = false := by
  rw [beq_eq_false_iff_ne]
  intro e
  rw [Lib.toList_data, Lib.toList_data] at e
  exact h (ByteArray.ext (Array.toList_inj.1 e))
theorem wbytes_inj {a b : List UInt8} (h : bytesOf a = bytesOf b) : a = b := by
  have := congrArg (fun x : ByteArray => x.data.toList) h
  simpa [bytesOf] using this
theorem findI_some {t : List UInt8} {n : Nat} (h : findI t = some n) : n < 12 ∧ wordS n = bytesOf t ∧ ∀ i, i < n → ¬ wordS i = bytesOf t := by
  unfold findI at h
  rw [List.findIdx?_eq_some_iff_getElem] at h
  obtain ⟨h1, h2, h3⟩ := h
  have hl : wordTab.length = 12 := rfl
  refine ⟨by omega, ?_, fun i hi e => ?_⟩
  · unfold wordS
    rw [List.getD_eq_getElem?_getD, List.getElem?_eq_getElem h1]
    simp at h2
    simp [h2]
  · have hlt : i < wordTab.length := by omega
    have := h3 i hi
    unfold wordS at e
    rw [List.getD_eq_getElem?_getD, List.getElem?_eq_getElem hlt] at e
    have e2 := wbytes_inj e
    simp at e2
    simp [e2] at this
theorem findI_none {t : List UInt8} (h : findI t = none) : ∀ i, i < 12 → ¬ wordS i = bytesOf t := by
  unfold findI at h
  rw [List.findIdx?_eq_none_iff] at h
  intro i hi e
  have hl : wordTab.length = 12 := rfl
  have hlt : i < wordTab.length := by omega
  unfold wordS at e
  rw [List.getD_eq_getElem?_getD, List.getElem?_eq_getElem hlt] at e
  have e2 := wbytes_inj e
  simp at e2
  have := h wordTab[i] (List.getElem_mem hlt)
  simp [e2] at this
end Go.Proofs.YtbdjpmmbnlmkhaaDoor


/- parse.reader: in the midst of a method that fills a struct: the reader, the result's block, the local's block. -/
set_option linter.unusedSimpArgs false
set_option linter.unusedVariables false
namespace Go.Proofs.YtbdjpmmbnlmkhaaDoor
open Go.RowKit Go.Sort

variable {w W W' : World} {rb g c : Nat} {ts : List Ev} {T : TypeId} {zb lb : Nat} {zc lc lc' zc' : Array Value} {st st' : RS}
theorem has_f {s : ByteArray} (hb : hasB s ts st = false) : hasB s ts st = false ∧ hasS s ts st = st := ⟨hb, by unfold hasS; rw [hb]; rfl⟩
theorem has_t {s : ByteArray} (hb : hasB s ts st = true) : hasB s ts st = true ∧ hasS s ts st = st.on := ⟨hb, by unfold hasS; rw [hb]; rfl⟩
def lsC (e a y n : Int) : Array Value := #[.int .u8 e, .int .i64 a, .int .i64 y, .int .i64 n]
def isC (k o d a b n s : Int) : Array Value := #[.int .u8 k, .int .u8 o, .int .i64 d, .int .i64 a, .int .i64 b, .int .i64 n, .int .i64 s]
end Go.Proofs.YtbdjpmmbnlmkhaaDoor

