/- Joined: Pzz, Pfx, Ppw. -/
import Derived.Test.YtgegdelinckfoaaDoorJa
import Derived.Test.YtgegdelinckfoaaDoorJm


/- A token that no place takes, among a program's tokens: the reader fails there. -/
set_option linter.unusedSimpArgs false
set_option linter.unusedVariables false
namespace Go.Proofs.YtgegdelinckfoaaDoor
open Go.RowKit Go.Sort

def lZz : List UInt8 := [122, 122]
def kZ : Tk := kW lZz
/-- Where the token that no place takes stands: at P0, and nowhere else. -/
structure ZOk (ts : List Ev) (P0 : Int) : Prop where
  t : Tks ts
  z : ∀ st, (curE ts st).t = lZz → ((curE ts st).p : Int) = P0
/-- The reader has failed there. -/
structure Fz (ts : List Ev) (P0 : Int) (st : RS) : Prop where
  r : ROk ts st
  e : st.er = 5
  p : st.pl = P0
section
variable {ts : List Ev} {P0 : Int} {st : RS}
theorem Fz.cur (ht : Tks ts) (h : Fz ts P0 st) : (curE ts st).k = 0 ∧ (curE ts st).t = [] := cur_fin ht h.r.i h.r.f (by rw [h.e]; decide)
theorem Fz.fail (h : Fz ts P0 st) (x : Ev) : failS ts x st = st := by unfold failS; rw [if_neg (by rw [h.e]; decide)]
theorem Fz.tk (ht : Tks ts) (h : Fz ts P0 st) {k : Int} (hk : k ≠ 0) : tkS k ts st = st := by
  have ho : takeOk k (curE ts st) = false := by unfold takeOk; rw [(h.cur ht).1]; simp [Ne.symm hk]
  unfold tkS takeS
  rw [ho]
  exact h.fail _
theorem Fz.has (ht : Tks ts) (h : Fz ts P0 st) {s : ByteArray} (hs : s.size ≠ 0) : hasB s ts st = false := by
  unfold hasB
  rw [(h.cur ht).2]
  exact decide_eq_false (fun e => hs (by rw [← e]; rfl))
theorem Fz.sign (ht : Tks ts) (h : Fz ts P0 st) {s : ByteArray} (hs : s.size ≠ 0) : signS s ts st = st := by
  unfold signS
  rw [h.has ht hs]
  exact h.fail _
theorem Fz.op (ht : Tks ts) (h : Fz ts P0 st) : opS ts st = st := by
  unfold opS
  rw [(h.cur ht).2, show findI [] = none from rfl]
  exact h.fail _
theorem Fz.line (ht : Tks ts) (h : Fz ts P0 st) : lineS ts st = st := by
  unfold lineS
  rw [h.tk ht (by decide)]
  exact emS_off (by rw [(h.cur ht).1]; decide)
theorem Fz.two (ht : Tks ts) (h : Fz ts P0 st) : twoS ts st = st := by
  unfold twoS
  rw [h.tk ht (by decide), h.sign ht (by decide), h.tk ht (by decide)]
theorem Fz.setr (ht : Tks ts) (h : Fz ts P0 st) (d : Int) : (setR d ts st).2 = st := by
  unfold setR
  rw [if_neg (by rw [(h.cur ht).1]; decide), if_neg (by rw [(h.cur ht).1]; decide), h.has ht (by decide), h.has ht (by decide), h.has ht (by decide)]
  show twoS ts (opS ts st) = st
  rw [h.op ht, h.two ht]
theorem Fz.insL (ht : Tks ts) (h : Fz ts P0 st) : Go.Proofs.YtgegdelinckfoaaDoor.insL ts st = ([], st) := by
  refine insL_none h.r.i ?_
  unfold insD
  rw [if_neg (by rw [(h.cur ht).1]; decide), h.has ht (by decide), h.has ht (by decide), h.has ht (by decide)]
  rfl
theorem Fz.last (ht : Tks ts) (h : Fz ts P0 st) : (lastD ts st).2 = st := by
  unfold lastD
  rw [h.has ht (by decide), h.has ht (by decide), h.has ht (by decide), h.has ht (by decide)]
  exact h.fail _
theorem Fz.end (ht : Tks ts) (h : Fz ts P0 st) : endS ts st = st := by
  unfold endS
  rw [if_pos (h.cur ht).1]
theorem Fz.blks (ht : Tks ts) (h : Fz ts P0 st) : blksL ts st = ([], st) := blksL_end h.r.i (h.cur ht).1
/-- Behind the head: nothing more. -/
theorem Fz.blk (ht : Tks ts) (h : Fz ts P0 (headS ts st)) : (blkD ts st).2 = headS ts st := by
  unfold blkD
  dsimp only
  rw [h.insL ht]
  dsimp only
  rw [h.last ht, h.end ht]
variable {q : List Tk}
theorem z_fail (H : ZOk ts P0) (h : At ts st (kZ :: q)) : Fz ts P0 (failS ts (curE ts st) st) := by
  obtain ⟨h1, h2, h3, h4, h5⟩ := h.cons
  have hg : greatT (curE ts st) = false := by unfold greatT; rw [h1]; simp [kZ, kW]
  refine ⟨fail_ok h.ok _, ?_, ?_⟩
  · unfold failS; rw [if_pos h.2, hg]; rfl
  · unfold failS; rw [if_pos h.2]; exact H.z st h2
theorem z_tk (H : ZOk ts P0) (h : At ts st (kZ :: q)) {k : Int} (hk : k ≠ 1) : Fz ts P0 (tkS k ts st) := by
  have ho : takeOk k (curE ts st) = false := by unfold takeOk; rw [h.cons.1]; simp [kZ, kW, Ne.symm hk]
  unfold tkS takeS
  rw [ho]
  exact z_fail H h
theorem z_has (h : At ts st (kZ :: q)) {s : ByteArray} (hs : bytesOf lZz ≠ s) : hasB s ts st = false := by
  rw [has_at h]
  exact decide_eq_false hs
theorem z_sign (H : ZOk ts P0) (h : At ts st (kZ :: q)) {s : ByteArray} (hs : bytesOf lZz ≠ s) : Fz ts P0 (signS s ts st) := by
  unfold signS
  rw [z_has h hs]
  exact z_fail H h
theorem z_op (H : ZOk ts P0) (h : At ts st (kZ :: q)) : Fz ts P0 (opS ts st) := by
  unfold opS
  rw [h.cons.2.1, show findI kZ.t = none from by decide]
  exact z_fail H h
theorem z_line (H : ZOk ts P0) (h : At ts st (kZ :: q)) : Fz ts P0 (lineS ts st) := by
  have h1 := z_tk H h (k := 7) (by decide)
  unfold lineS
  rw [emS_off (by rw [(h1.cur H.t).1]; decide)]
  exact h1
theorem z_ins (h : At ts st (kZ :: q)) : insD ts st = none := by
  unfold insD
  rw [if_neg (by rw [h.cons.1]; decide), z_has h (by decide), z_has h (by decide), z_has h (by decide)]
  rfl
theorem z_last (H : ZOk ts P0) (h : At ts st (kZ :: q)) : Fz ts P0 (lastD ts st).2 := by
  unfold lastD
  rw [z_has h (by decide), z_has h (by decide), z_has h (by decide), z_has h (by decide)]
  exact z_fail H h
theorem z_setr (H : ZOk ts P0) (h : At ts st (kZ :: q)) (d : Int) : Fz ts P0 (setR d ts st).2 := by
  unfold setR
  rw [if_neg (by rw [h.cons.1]; decide), if_neg (by rw [h.cons.1]; decide), z_has h (by decide), z_has h (by decide), z_has h (by decide)]
  show Fz ts P0 (twoS ts (opS ts st))
  rw [(z_op H h).two H.t]
  exact z_op H h
/-- Two registers that come not whole. -/
theorem z_two (H : ZOk ts P0) {a b : Int} (ha : a < 100000) (h : (∃ q, At ts st (kZ :: q)) ∨ (∃ q, At ts st (kR a :: kZ :: q)) ∨ ∃ q, At ts st (kR a :: kG 44 :: kZ :: q)) : Fz ts P0 (twoS ts st) := by
  unfold twoS
  rcases h with ⟨q, h⟩ | ⟨q, h⟩ | ⟨q, h⟩
  · have h1 := z_tk H h (k := 2) (by decide)
    rw [h1.sign H.t (by decide), h1.tk H.t (by decide)]
    exact h1
  · have h1 := reg_at ha h
    have h2 := z_sign H h1.2 (s := comma) (by decide)
    rw [h2.tk H.t (by decide)]
    exact h2
  · have h1 := reg_at ha h
    have h2 := sign_at h1.2 comma rfl
    exact z_tk H h2 (by decide)
/-- A setting that comes not whole: what is behind the sign fails. -/
theorem z_set (H : ZOk ts P0) {d : Int} (hd : d < 100000) (h : (∃ q, At ts st (kR d :: kZ :: q)) ∨ ∃ q, At ts st (kR d :: kG 61 :: kZ :: q)) : ∃ y s1, insD ts st = some (y, s1) ∧ Fz ts P0 s1 := by
  have e : ∀ {q}, At ts st (kR d :: q) → insD ts st = some (setD ts st) := fun h => by unfold insD; rw [if_pos (show (curE ts st).k = 2 from h.cons.1)]
  rcases h with ⟨q, h⟩ | ⟨q, h⟩
  · refine ⟨_, _, e h, ?_⟩
    have h1 := reg_at hd h
    have h2 := z_sign H h1.2 (s := sEq) (by decide)
    show Fz ts P0 (setR (tkV 2 ts st) ts (signS sEq ts (tkS 2 ts st))).2
    rw [h2.setr H.t]
    exact h2
  · refine ⟨_, _, e h, ?_⟩
    have h1 := reg_at hd h
    have h2 := sign_at h1.2 sEq rfl
    exact z_setr H h2 _
theorem take_lt {α : Type} {l : List α} {j : Nat} (h : j < l.length) : ∀ {n : Nat}, l.length = n → j < n := fun e => e ▸ h
/-- An instruction that comes not whole. -/
theorem insZ (H : ZOk ts P0) {x : InsM} (hx : InsV x) {j : Nat} (h0 : 0 < j) (hj : j < (tkI x).length) (h : At ts st ((tkI x).take j ++ kZ :: q)) : ∃ y s1, insD ts st = some (y, s1) ∧ Fz ts P0 s1 := by
  cases hx with
  | c d n hd =>
    have hc : j = 1 ∨ j = 2 := by have := hj; simp [tkI] at this; omega
    rcases hc with rfl | rfl
    · exact z_set H hd (.inl ⟨_, h⟩)
    · exact z_set H hd (.inr ⟨_, h⟩)
  | p d a hd ha =>
    have hc : j = 1 ∨ j = 2 := by have := hj; simp [tkI] at this; omega
    rcases hc with rfl | rfl
    · exact z_set H hd (.inl ⟨_, h⟩)
    · exact z_set H hd (.inr ⟨_, h⟩)
  | i d hd =>
    have hc : j = 1 ∨ j = 2 := by have := hj; simp [tkI] at this; omega
    rcases hc with rfl | rfl
    · exact z_set H hd (.inl ⟨_, h⟩)
    · exact z_set H hd (.inr ⟨_, h⟩)
  | l d s hd hs =>
    have hc : j = 1 ∨ j = 2 ∨ j = 3 := by have := hj; simp [tkI] at this; omega
    rcases hc with rfl | rfl | rfl
    · exact z_set H hd (.inl ⟨_, h⟩)
    · exact z_set H hd (.inr ⟨_, h⟩)
    · obtain ⟨h1, h2⟩ := set_at hd (show At ts st (kR d :: kG 61 :: kW lLoad :: kZ :: q) from h)
      refine ⟨(setR d ts (signS sEq ts (tkS 2 ts st))).1, (setR d ts (signS sEq ts (tkS 2 ts st))).2, h1, ?_⟩
      unfold setR
      rw [if_neg (by rw [h2.cons.1]; decide), if_neg (by rw [h2.cons.1]; decide), has_at h2, has_at h2, if_neg (by decide), if_pos (by decide)]
      exact z_tk H h2.cons.2.2.2.1 (by decide)
  | g d a hd ha =>
    have hc : j = 1 ∨ j = 2 ∨ j = 3 := by have := hj; simp [tkI] at this; omega
    rcases hc with rfl | rfl | rfl
    · exact z_set H hd (.inl ⟨_, h⟩)
    · exact z_set H hd (.inr ⟨_, h⟩)
    · obtain ⟨h1, h2⟩ := set_at hd (show At ts st (kR d :: kG 61 :: kW lGet :: kZ :: q) from h)
      refine ⟨(setR d ts (signS sEq ts (tkS 2 ts st))).1, (setR d ts (signS sEq ts (tkS 2 ts st))).2, h1, ?_⟩
      unfold setR
      rw [if_neg (by rw [h2.cons.1]; decide), if_neg (by rw [h2.cons.1]; decide), has_at h2, has_at h2, has_at h2, if_neg (by decide), if_neg (by decide), if_pos (by decide)]
      exact z_tk H h2.cons.2.2.2.1 (by decide)
  | d o d a b ho hd ha hb =>
    have hc : j = 1 ∨ j = 2 ∨ j = 3 ∨ j = 4 ∨ j = 5 := by have := hj; simp [tkI] at this; omega
    have w3 : ∀ {r : List Tk}, At ts st (kR d :: kG 61 :: kW (wordTab.getD o []) :: r) → insD ts st = some (setR d ts (signS sEq ts (tkS 2 ts st))) ∧ (setR d ts (signS sEq ts (tkS 2 ts st))).2 = twoS ts (signS sEq ts (tkS 2 ts st)).on ∧ At ts (signS sEq ts (tkS 2 ts st)).on r := fun {r} h' => by
      obtain ⟨h1, h2⟩ := set_at hd h'
      have hf := word_find ⟨o, ho⟩
      have hn := word_not ⟨o, ho⟩
      have ht : (curE ts (signS sEq ts (tkS 2 ts st))).t = wordTab.getD o [] := h2.cons.2.1
      have hk1 : (curE ts (signS sEq ts (tkS 2 ts st))).k = 1 := h2.cons.1
      have hh : ∀ s ∈ [sIn, sLoad, sGet], hasB s ts (signS sEq ts (tkS 2 ts st)) = false := fun s hs => (has_at h2 s).trans (hn s hs)
      have e2 : opS ts (signS sEq ts (tkS 2 ts st)) = (signS sEq ts (tkS 2 ts st)).on := by unfold opS; rw [ht, hf]
      refine ⟨h1, ?_, h2.cons.2.2.2.1⟩
      unfold setR
      rw [if_neg (by rw [hk1]; decide), if_neg (by rw [hk1]; decide), hh sIn (by simp), hh sLoad (by simp), hh sGet (by simp)]
      show twoS ts (opS ts (signS sEq ts (tkS 2 ts st))) = _
      rw [e2]
    rcases hc with rfl | rfl | rfl | rfl | rfl
    · exact z_set H hd (.inl ⟨_, h⟩)
    · exact z_set H hd (.inr ⟨_, h⟩)
    · obtain ⟨h1, h2, h3⟩ := w3 (r := kZ :: q) h
      exact ⟨(setR d ts (signS sEq ts (tkS 2 ts st))).1, (setR d ts (signS sEq ts (tkS 2 ts st))).2, h1, by rw [h2]; exact z_two (b := b) H ha (.inl ⟨_, h3⟩)⟩
    · obtain ⟨h1, h2, h3⟩ := w3 (r := kR a :: kZ :: q) h
      exact ⟨(setR d ts (signS sEq ts (tkS 2 ts st))).1, (setR d ts (signS sEq ts (tkS 2 ts st))).2, h1, by rw [h2]; exact z_two (b := b) H ha (.inr (.inl ⟨_, h3⟩))⟩
    · obtain ⟨h1, h2, h3⟩ := w3 (r := kR a :: kG 44 :: kZ :: q) h
      exact ⟨(setR d ts (signS sEq ts (tkS 2 ts st))).1, (setR d ts (signS sEq ts (tkS 2 ts st))).2, h1, by rw [h2]; exact z_two (b := b) H ha (.inr (.inr ⟨_, h3⟩))⟩
  | o a ha =>
    have hc : j = 1 := by have := hj; simp [tkI] at this; omega
    subst hc
    have h' : At ts st (kW lOut :: kZ :: q) := h
    refine ⟨_, _, by unfold insD; rw [if_neg (by rw [h'.cons.1]; decide), has_at h', if_pos (by decide)], ?_⟩
    exact z_tk H h'.cons.2.2.2.1 (by decide)
  | s a s ha hs =>
    have e : ∀ {r}, At ts st (kW lStore :: r) → insD ts st = some (⟨6, 0, 0, tkV 2 ts (signS comma ts (tkS 4 ts st.on)), 0, 0, tkV 4 ts st.on⟩, tkS 2 ts (signS comma ts (tkS 4 ts st.on))) := fun {r} h' => by
      unfold insD; rw [if_neg (by rw [h'.cons.1]; decide), has_at h', has_at h', if_neg (by decide), if_pos (by decide)]
    have hc : j = 1 ∨ j = 2 ∨ j = 3 := by have := hj; simp [tkI] at this; omega
    rcases hc with rfl | rfl | rfl
    · have h' : At ts st (kW lStore :: kZ :: q) := h
      have h1 := z_tk H h'.cons.2.2.2.1 (k := 4) (by decide)
      exact ⟨_, _, e h', by rw [h1.sign H.t (by decide), h1.tk H.t (by decide)]; exact h1⟩
    · have h' : At ts st (kW lStore :: kS s :: kZ :: q) := h
      have h1 := slot_at hs h'.cons.2.2.2.1
      have h2 := z_sign H h1.2 (s := comma) (by decide)
      exact ⟨_, _, e h', by rw [h2.tk H.t (by decide)]; exact h2⟩
    · have h' : At ts st (kW lStore :: kS s :: kG 44 :: kZ :: q) := h
      have h1 := slot_at hs h'.cons.2.2.2.1
      have h2 := sign_at h1.2 comma rfl
      exact ⟨_, _, e h', z_tk H h2 (by decide)⟩
  | u a b ha hb =>
    have e : ∀ {r}, At ts st (kW lPut :: r) → ∃ y, insD ts st = some (y, twoS ts st.on) := fun {r} h' => by
      refine ⟨⟨8, 0, 0, tkV 2 ts st.on, tkV 2 ts (signS comma ts (tkS 2 ts st.on)), 0, 0⟩, ?_⟩
      unfold insD; rw [if_neg (by rw [h'.cons.1]; decide), has_at h', has_at h', has_at h', if_neg (by decide), if_neg (by decide), if_pos (by decide)]
    have hc : j = 1 ∨ j = 2 ∨ j = 3 := by have := hj; simp [tkI] at this; omega
    rcases hc with rfl | rfl | rfl
    · have h' : At ts st (kW lPut :: kZ :: q) := h
      obtain ⟨y, e1⟩ := e h'
      exact ⟨_, _, e1, z_two (b := b) H ha (.inl ⟨_, h'.cons.2.2.2.1⟩)⟩
    · have h' : At ts st (kW lPut :: kR a :: kZ :: q) := h
      obtain ⟨y, e1⟩ := e h'
      exact ⟨_, _, e1, z_two (b := b) H ha (.inr (.inl ⟨_, h'.cons.2.2.2.1⟩))⟩
    · have h' : At ts st (kW lPut :: kR a :: kG 44 :: kZ :: q) := h
      obtain ⟨y, e1⟩ := e h'
      exact ⟨_, _, e1, z_two (b := b) H ha (.inr (.inr ⟨_, h'.cons.2.2.2.1⟩))⟩
/-- An end that comes not whole. -/
theorem lastZ (H : ZOk ts P0) {e a y n : Int} (hv : LastV e a y n) {j : Nat} (h0 : 0 < j) (hj : j < (tkL e a y n).length) (h : At ts st ((tkL e a y n).take j ++ kZ :: q)) : insD ts st = none ∧ Fz ts P0 (lastD ts st).2 := by
  have hi : ∀ {w : List UInt8} {r : List Tk}, (∀ s ∈ [sOut, sStore, sPut], bytesOf w ≠ s) → At ts st (kW w :: r) → insD ts st = none := fun {w r} hw h' => by
    unfold insD
    rw [if_neg (by rw [h'.cons.1]; show ¬ (1 : Int) = 2; decide), has_at h', has_at h', has_at h', if_neg (by rw [decide_eq_true_eq]; exact hw sOut (by simp)), if_neg (by rw [decide_eq_true_eq]; exact hw sStore (by simp)), if_neg (by rw [decide_eq_true_eq]; exact hw sPut (by simp))]
  cases hv with
  | j _ hy =>
    have hc : j = 1 := by have := hj; simp [tkL] at this; omega
    subst hc
    have h' : At ts st (kW lJump :: kZ :: q) := h
    refine ⟨hi (by decide) h', ?_⟩
    unfold lastD; rw [has_at h', if_pos (by decide)]
    exact z_tk H h'.cons.2.2.2.1 (by decide)
  | r _ ha =>
    have hc : j = 1 := by have := hj; simp [tkL] at this; omega
    subst hc
    have h' : At ts st (kW lRet :: kZ :: q) := h
    refine ⟨hi (by decide) h', ?_⟩
    unfold lastD; rw [has_at h', has_at h', has_at h', if_neg (by decide), if_neg (by decide), if_pos (by decide)]
    exact z_tk H h'.cons.2.2.2.1 (by decide)
  | t =>
    have hc : False := by have := hj; simp [tkL] at this; omega
    exact hc.elim
  | b _ _ _ ha hy hn =>
    have hc : j = 1 ∨ j = 2 ∨ j = 3 ∨ j = 4 ∨ j = 5 := by have := hj; simp [tkL] at this; omega
    have el : ∀ {r : List Tk}, At ts st (kW lBr :: r) → (lastD ts st).2 = tkS 3 ts (signS comma ts (tkS 3 ts (signS comma ts (tkS 2 ts st.on)))) := fun {r} h' => by
      unfold lastD; rw [has_at h', has_at h', if_neg (by decide), if_pos (by decide)]
    rcases hc with rfl | rfl | rfl | rfl | rfl
    · have h' : At ts st (kW lBr :: kZ :: q) := h
      refine ⟨hi (by decide) h', ?_⟩
      have h1 := z_tk H h'.cons.2.2.2.1 (k := 2) (by decide)
      rw [el h', h1.sign H.t (by decide), h1.tk H.t (by decide), h1.sign H.t (by decide), h1.tk H.t (by decide)]
      exact h1
    · have h' : At ts st (kW lBr :: kR a :: kZ :: q) := h
      refine ⟨hi (by decide) h', ?_⟩
      have h1 := z_sign H (reg_at ha h'.cons.2.2.2.1).2 (s := comma) (by decide)
      rw [el h', h1.tk H.t (by decide), h1.sign H.t (by decide), h1.tk H.t (by decide)]
      exact h1
    · have h' : At ts st (kW lBr :: kR a :: kG 44 :: kZ :: q) := h
      refine ⟨hi (by decide) h', ?_⟩
      have h1 := z_tk H (sign_at (reg_at ha h'.cons.2.2.2.1).2 comma rfl) (k := 3) (by decide)
      rw [el h', h1.sign H.t (by decide), h1.tk H.t (by decide)]
      exact h1
    · have h' : At ts st (kW lBr :: kR a :: kG 44 :: kL y :: kZ :: q) := h
      refine ⟨hi (by decide) h', ?_⟩
      have h1 := z_sign H (lab_at hy (sign_at (reg_at ha h'.cons.2.2.2.1).2 comma rfl)).2 (s := comma) (by decide)
      rw [el h', h1.tk H.t (by decide)]
      exact h1
    · have h' : At ts st (kW lBr :: kR a :: kG 44 :: kL y :: kG 44 :: kZ :: q) := h
      refine ⟨hi (by decide) h', ?_⟩
      have h1 := z_tk H (sign_at (lab_at hy (sign_at (reg_at ha h'.cons.2.2.2.1).2 comma rfl)).2 comma rfl) (k := 3) (by decide)
      rw [el h']
      exact h1
end
theorem kZ_no (l : List Tk) : NoNl (kZ :: l) := ⟨_, _, rfl, by decide⟩
theorem take_no {L : List Tk} (h : NoNl L) (j : Nat) (r : List Tk) : NoNl (L.take j ++ kZ :: r) := by
  obtain ⟨x, l, rfl, hx⟩ := h
  cases j with
  | zero => exact kZ_no r
  | succ j => exact ⟨x, _, rfl, hx⟩
/-- What comes is a part of a, then the token that no place takes. -/
theorem Spr.part {a r m : List Tk} {j : Nat} (ha : ∀ y ∈ a, y.k ≠ 7) (h : Spr (a.take j ++ kZ :: r) m) : ∃ q, m = a.take j ++ kZ :: q ∧ Spr r q := by
  obtain ⟨m1, rfl, h1⟩ := Spr.pre (fun y hy => ha y (List.mem_of_mem_take hy)) h
  obtain ⟨m2, rfl, h2⟩ := Spr.cons h1 (by decide)
  exact ⟨m2, rfl, h2⟩
theorem Spr.zed {r m : List Tk} (h : Spr (kZ :: r) m) : ∃ q, m = kZ :: q ∧ Spr r q := Spr.cons h (by decide)
/-- Lines of instructions and an end that come not whole. -/
theorem inssZ {ts : List Ev} {P0 : Int} (H : ZOk ts P0) {e a y n : Int} (hv : LastV e a y n) {r : List Tk} : ∀ (l : List InsM) {st : RS} {m : List Tk} {j : Nat}, (∀ x ∈ l, InsV x) → At ts st m → Spr ((tkIs l ++ tkL e a y n).take j ++ kZ :: r) m → j < (tkIs l ++ tkL e a y n).length →
    Fz ts P0 (lastD ts (insL ts st).2).2
  | [], st, m, j, hl, h, hs, hj => by
    obtain ⟨q, rfl, _⟩ := Spr.part (a := tkL e a y n) (tkL_nl hv) (show Spr ((tkL e a y n).take j ++ kZ :: r) m from hs)
    cases j with
    | zero =>
      have h' : At ts st (kZ :: q) := h
      rw [insL_none h'.ok.i (z_ins h')]
      exact z_last H h'
    | succ j =>
      have h1 := lastZ H hv (Nat.succ_pos j) hj h
      have hi : InS ts st := by
        obtain ⟨x, q', e1, _⟩ := take_no (by simpa using tkL_no hv []) (j + 1) q
        rw [e1] at h
        exact h.cons.2.2.2.2
      rw [insL_none hi h1.1]
      exact h1.2
  | x :: l, st, m, j, hl, h, hs, hj => by
    have hx := hl x (by simp)
    have hl' : ∀ z ∈ l, InsV z := fun z hz => hl z (by simp [hz])
    rw [tkIs_cons, List.append_assoc, List.cons_append] at hs hj
    by_cases h0 : j = 0
    · subst h0
      obtain ⟨q, rfl, _⟩ := Spr.zed hs
      rw [insL_none h.ok.i (z_ins h)]
      exact z_last H h
    by_cases h1 : j ≤ (tkI x).length
    · rw [List.take_append_of_le_length h1] at hs
      obtain ⟨q, rfl, _⟩ := Spr.part (tkI_nl hx) hs
      have hr : ROk ts st := by
        obtain ⟨x', q', e1, _⟩ := take_no (by simpa using tkI_no hx []) j q
        rw [e1] at h
        exact h.ok
      by_cases h2 : j = (tkI x).length
      · subst h2
        rw [List.take_length] at h
        obtain ⟨s1, e1, a1⟩ := tin_at hx h
        have h3 := z_line H a1
        rw [insL_some H.t hr e1]
        dsimp only
        rw [h3.insL H.t, h3.last H.t]
        exact h3
      · obtain ⟨y', s1, e1, h3⟩ := insZ H hx (by omega) (by omega) h
        rw [insL_some H.t hr e1]
        dsimp only
        rw [h3.line H.t, h3.insL H.t, h3.last H.t]
        exact h3
    · obtain ⟨i, rfl⟩ : ∃ i, j = (tkI x).length + (i + 1) := ⟨j - (tkI x).length - 1, by omega⟩
      rw [List.take_length_add_append, List.take_succ_cons, List.append_assoc, List.cons_append] at hs
      obtain ⟨m1, rfl, hs1⟩ := Spr.pre (tkI_nl hx) hs
      obtain ⟨s1, e1, a1⟩ := tin_at hx h
      obtain ⟨m2, a2, hs2⟩ := line_at a1 hs1 (take_no (tkIs_no hl' (by simpa using tkL_no hv [])) i r)
      have hr : ROk ts st := by
        obtain ⟨q, q2, e4, _⟩ := tkI_no hx m1
        rw [e4] at h
        exact h.ok
      rw [insL_some H.t hr e1]
      dsimp only
      refine inssZ H hv l hl' a2 hs2 ?_
      rw [List.length_append, List.length_cons] at hj
      omega
/-- A block that comes not whole, or whose last line has no end. -/
theorem blkZ {ts : List Ev} {P0 : Int} (H : ZOk ts P0) {b : ABlk} (hb : BlkV b) {r : List Tk} {st : RS} {m : List Tk} {j : Nat} (h : At ts st m) (hs : Spr ((tkB b).take j ++ kZ :: r) m) (hj : j ≤ (tkB b).length) : Fz ts P0 (blkD ts st).2 := by
  by_cases h0 : j = 0
  · subst h0
    obtain ⟨q, rfl, _⟩ := Spr.zed hs
    have h1 := z_tk H h (k := 3) (by decide)
    have e : headS ts st = tkS 3 ts st := by unfold headS; rw [h1.sign H.t (by decide), h1.line H.t]
    have h2 : Fz ts P0 (headS ts st) := by rw [e]; exact h1
    rw [h2.blk H.t]
    exact h2
  by_cases h1 : j = 1
  · subst h1
    obtain ⟨q, rfl, hs1⟩ := Spr.cons (show Spr (kL b.lab :: kZ :: r) m from hs) (by simp [kL])
    obtain ⟨q, rfl, _⟩ := Spr.zed hs1
    have h1 := z_sign H (lab_at hb.l h).2 (s := sColon) (by decide)
    have e : headS ts st = signS sColon ts (tkS 3 ts st) := by unfold headS; rw [h1.line H.t]
    have h2 : Fz ts P0 (headS ts st) := by rw [e]; exact h1
    rw [h2.blk H.t]
    exact h2
  by_cases h2 : j = 2
  · subst h2
    obtain ⟨q, rfl, hs1⟩ := Spr.cons (show Spr (kL b.lab :: kG 58 :: kZ :: r) m from hs) (by simp [kL])
    obtain ⟨q, rfl, hs2⟩ := Spr.cons hs1 (by simp [kG])
    obtain ⟨q, rfl, _⟩ := Spr.zed hs2
    have h2 : Fz ts P0 (headS ts st) := z_line H (sign_at (lab_at hb.l h).2 sColon rfl)
    rw [h2.blk H.t]
    exact h2
  obtain ⟨i, rfl⟩ : ∃ i, j = i + 3 := ⟨j - 3, by omega⟩
  have hl : i ≤ (tkIs b.ins ++ tkL b.e b.a b.y b.n).length := by
    have : (tkB b).length = (tkIs b.ins ++ tkL b.e b.a b.y b.n).length + 3 := rfl
    omega
  by_cases hi : i = (tkIs b.ins ++ tkL b.e b.a b.y b.n).length
  · have he : (tkB b).take (i + 3) = tkB b := by
      refine List.take_of_length_le ?_
      have : (tkB b).length = (tkIs b.ins ++ tkL b.e b.a b.y b.n).length + 3 := rfl
      omega
    rw [he] at hs
    obtain ⟨s1, m1, e1, a1, hs1⟩ := blk0_at H.t hb h hs
    obtain ⟨q, rfl, _⟩ := Spr.zed hs1
    rw [e1]
    dsimp only
    unfold endS
    rw [if_neg (by rw [a1.cons.1]; decide)]
    exact z_line H a1
  · have hs' : Spr (kL b.lab :: kG 58 :: kNl :: ((tkIs b.ins ++ tkL b.e b.a b.y b.n).take i ++ kZ :: r)) m := hs
    obtain ⟨m1, rfl, hs1⟩ := Spr.cons hs' (by simp [kL])
    obtain ⟨m2, rfl, hs2⟩ := Spr.cons hs1 (by simp [kG])
    have a2 := sign_at (lab_at hb.l h).2 sColon rfl
    obtain ⟨m3, a3, hs3⟩ := line_at a2 hs2 (take_no (tkIs_no hb.i (by simpa using tkL_no hb.e [])) i r)
    have h4 : Fz ts P0 (lastD ts (insL ts (headS ts st)).2).2 := inssZ H hb.e b.ins hb.i a3 hs3 (by omega)
    unfold blkD
    dsimp only
    rw [h4.end H.t]
    exact h4
def tkPl (P : List ABlk) : List Tk := P.flatMap fun b => tkB b ++ [kNl]
/-- **A program that comes not whole: the reader fails at the token that no place takes.** -/
theorem progZ {ts : List Ev} {P0 : Int} (H : ZOk ts P0) {r : List Tk} : ∀ (P : List ABlk) {st : RS} {m : List Tk} {j : Nat}, (∀ b ∈ P, BlkV b) → At ts st m → Spr ((tkPl P).take j ++ kZ :: r) m → j < (tkPl P).length → Fz ts P0 (blksL ts st).2
  | [], st, m, j, hP, h, hs, hj => by simp [tkPl] at hj
  | b :: rest, st, m, j, hP, h, hs, hj => by
    have hb := hP b (by simp)
    have el : tkPl (b :: rest) = tkB b ++ (kNl :: tkPl rest) := by simp [tkPl]
    rw [el] at hs hj
    have hno : NoNl ((tkB b ++ (kNl :: tkPl rest)).take j ++ kZ :: r) := take_no (tkB_no b _) j r
    have hr := hno.ok hs h
    have hc : (curE ts st).k ≠ 0 := by
      cases j with
      | zero =>
        obtain ⟨q, rfl, _⟩ := Spr.zed hs
        rw [h.cons.1]; decide
      | succ j =>
        obtain ⟨m1, rfl, _⟩ := Spr.cons (show Spr (kL b.lab :: _) m from hs) (by simp [kL])
        rw [h.cons.1]; simp [kL]
    rw [blksL_step H.t hr hc]
    dsimp only
    by_cases h1 : j ≤ (tkB b).length
    · rw [List.take_append_of_le_length h1] at hs
      have h2 := blkZ H hb h hs h1
      rw [h2.blks H.t]
      exact h2
    · obtain ⟨i, rfl⟩ : ∃ i, j = (tkB b).length + (i + 1) := ⟨j - (tkB b).length - 1, by omega⟩
      rw [List.take_length_add_append, List.take_succ_cons, List.append_assoc, List.cons_append] at hs
      obtain ⟨s1, m1, e1, a1, hs1⟩ := blk0_at H.t hb h hs
      have hi : i < (tkPl rest).length := by rw [List.length_append, List.length_cons] at hj; omega
      have hrest : NoNl (tkPl rest) := by
        cases rest with
        | nil => simp [tkPl] at hi
        | cons c d => rw [show tkPl (c :: d) = tkB c ++ (kNl :: tkPl d) by simp [tkPl]]; exact tkB_no c _
      have ee : endS ts s1 = lineS ts s1 := by
        unfold endS
        obtain ⟨m2, e2, _⟩ := hs1.line
        rw [if_neg]
        rcases e2 with rfl | rfl
        · rw [a1.cons.1]; simp [kNl]
        · rw [a1.cons.1]; simp [kNl]
      obtain ⟨m2, a2, hs2⟩ := line_at a1 hs1 (take_no hrest i r)
      rw [e1, ee]
      exact progZ H rest (fun x hx => hP x (by simp [hx])) a2 hs2 hi
theorem progD_z {ts : List Ev} {P0 : Int} (H : ZOk ts P0) {r : List Tk} {P : List ABlk} {j : Nat} (hP : ∀ b ∈ P, BlkV b) (h : Spr ((tkPl P).take j ++ kZ :: r) (ts.map Ev.tk)) (hj : j < (tkPl P).length) : (progD ts).2.er = 5 ∧ (progD ts).2.pl = P0 := by
  have ha : At ts ⟨0, 0, 0⟩ (ts.map Ev.tk) := ⟨by rw [List.drop_zero], rfl⟩
  have hno : NoNl (tkPl P) := by
    cases P with
    | nil => simp [tkPl] at hj
    | cons c d => rw [show tkPl (c :: d) = tkB c ++ (kNl :: tkPl d) by simp [tkPl]]; exact tkB_no c _
  have he := em_at ha h (take_no hno j r)
  have h2 := progZ H P hP ha h hj
  unfold progD
  rw [he]
  exact ⟨h2.e, h2.p⟩
end Go.Proofs.YtgegdelinckfoaaDoor


/- ParsePlaces: what is told of its texts. -/
set_option linter.unusedSimpArgs false
set_option linter.unusedVariables false
namespace Go.Proofs.YtgegdelinckfoaaDoor
open Go.RowKit Go.Sort
def fxA : List UInt8 := [64, 48, 58, 10, 37, 49, 32, 61, 32, 53, 10, 111, 117, 116, 32, 37, 49, 48, 48, 48, 48, 48, 10, 116, 114, 97, 112, 10]
def fxB : List UInt8 := [64, 48, 58, 10, 115, 116, 111, 114, 101, 32, 36, 49, 54, 44, 32, 37, 49, 10, 116, 114, 97, 112]
def fxC : List UInt8 := [64, 48, 58, 10, 106, 117, 109, 112, 32, 64, 49]
set_option maxRecDepth 100000 in
theorem fxA_r : parseR (bytesOf fxA) = ([], 15, 2) := by
  have he : evT 0 fxA = [⟨3, 0, [], 0, 0⟩, ⟨6, 2, [58], 0, 0⟩, ⟨7, 3, [], 0, 0⟩, ⟨2, 4, [], 1, 0⟩, ⟨6, 7, [61], 0, 0⟩, ⟨5, 9, [], 5, 0⟩, ⟨7, 10, [], 0, 0⟩, ⟨1, 11, lOut, 0, 0⟩, ⟨2, 15, [], 100000, 0⟩, ⟨7, 22, [], 0, 0⟩, ⟨1, 23, lTrap, 0, 0⟩, ⟨7, 27, [], 0, 0⟩, ⟨0, 28, [], 0, 0⟩] := by kernel_rfl
  refine (parseR_er (by decide) he (by decide)).trans ?_
  clear he
  have h : ∀ _ : Unit, (if (progD [⟨3, 0, [], 0, 0⟩, ⟨6, 2, [58], 0, 0⟩, ⟨7, 3, [], 0, 0⟩, ⟨2, 4, [], 1, 0⟩, ⟨6, 7, [61], 0, 0⟩, ⟨5, 9, [], 5, 0⟩, ⟨7, 10, [], 0, 0⟩, ⟨1, 11, lOut, 0, 0⟩, ⟨2, 15, [], 100000, 0⟩, ⟨7, 22, [], 0, 0⟩, ⟨1, 23, lTrap, 0, 0⟩, ⟨7, 27, [], 0, 0⟩, ⟨0, 28, [], 0, 0⟩]).2.er ≠ 0 then ([], (progD [⟨3, 0, [], 0, 0⟩, ⟨6, 2, [58], 0, 0⟩, ⟨7, 3, [], 0, 0⟩, ⟨2, 4, [], 1, 0⟩, ⟨6, 7, [61], 0, 0⟩, ⟨5, 9, [], 5, 0⟩, ⟨7, 10, [], 0, 0⟩, ⟨1, 11, lOut, 0, 0⟩, ⟨2, 15, [], 100000, 0⟩, ⟨7, 22, [], 0, 0⟩, ⟨1, 23, lTrap, 0, 0⟩, ⟨7, 27, [], 0, 0⟩, ⟨0, 28, [], 0, 0⟩]).2.pl, (progD [⟨3, 0, [], 0, 0⟩, ⟨6, 2, [58], 0, 0⟩, ⟨7, 3, [], 0, 0⟩, ⟨2, 4, [], 1, 0⟩, ⟨6, 7, [61], 0, 0⟩, ⟨5, 9, [], 5, 0⟩, ⟨7, 10, [], 0, 0⟩, ⟨1, 11, lOut, 0, 0⟩, ⟨2, 15, [], 100000, 0⟩, ⟨7, 22, [], 0, 0⟩, ⟨1, 23, lTrap, 0, 0⟩, ⟨7, 27, [], 0, 0⟩, ⟨0, 28, [], 0, 0⟩]).2.er) else if checkA (progD [⟨3, 0, [], 0, 0⟩, ⟨6, 2, [58], 0, 0⟩, ⟨7, 3, [], 0, 0⟩, ⟨2, 4, [], 1, 0⟩, ⟨6, 7, [61], 0, 0⟩, ⟨5, 9, [], 5, 0⟩, ⟨7, 10, [], 0, 0⟩, ⟨1, 11, lOut, 0, 0⟩, ⟨2, 15, [], 100000, 0⟩, ⟨7, 22, [], 0, 0⟩, ⟨1, 23, lTrap, 0, 0⟩, ⟨7, 27, [], 0, 0⟩, ⟨0, 28, [], 0, 0⟩]).1 ≠ 0 then ([], ((bytesOf fxA).size : Int), checkA (progD [⟨3, 0, [], 0, 0⟩, ⟨6, 2, [58], 0, 0⟩, ⟨7, 3, [], 0, 0⟩, ⟨2, 4, [], 1, 0⟩, ⟨6, 7, [61], 0, 0⟩, ⟨5, 9, [], 5, 0⟩, ⟨7, 10, [], 0, 0⟩, ⟨1, 11, lOut, 0, 0⟩, ⟨2, 15, [], 100000, 0⟩, ⟨7, 22, [], 0, 0⟩, ⟨1, 23, lTrap, 0, 0⟩, ⟨7, 27, [], 0, 0⟩, ⟨0, 28, [], 0, 0⟩]).1) else ((progD [⟨3, 0, [], 0, 0⟩, ⟨6, 2, [58], 0, 0⟩, ⟨7, 3, [], 0, 0⟩, ⟨2, 4, [], 1, 0⟩, ⟨6, 7, [61], 0, 0⟩, ⟨5, 9, [], 5, 0⟩, ⟨7, 10, [], 0, 0⟩, ⟨1, 11, lOut, 0, 0⟩, ⟨2, 15, [], 100000, 0⟩, ⟨7, 22, [], 0, 0⟩, ⟨1, 23, lTrap, 0, 0⟩, ⟨7, 27, [], 0, 0⟩, ⟨0, 28, [], 0, 0⟩]).1, 0, 0)) = ((([], 15, 2)) : List ABlk × Int × Int) := fun _ => by kernel_rfl
  exact h ()
set_option maxRecDepth 100000 in
theorem fxB_r : parseR (bytesOf fxB) = ([], 10, 2) := by
  have he : evT 0 fxB = [⟨3, 0, [], 0, 0⟩, ⟨6, 2, [58], 0, 0⟩, ⟨7, 3, [], 0, 0⟩, ⟨1, 4, lStore, 0, 0⟩, ⟨4, 10, [], 16, 0⟩, ⟨6, 13, [44], 0, 0⟩, ⟨2, 15, [], 1, 0⟩, ⟨7, 17, [], 0, 0⟩, ⟨1, 18, lTrap, 0, 0⟩, ⟨0, 22, [], 0, 0⟩] := by kernel_rfl
  refine (parseR_er (by decide) he (by decide)).trans ?_
  clear he
  have h : ∀ _ : Unit, (if (progD [⟨3, 0, [], 0, 0⟩, ⟨6, 2, [58], 0, 0⟩, ⟨7, 3, [], 0, 0⟩, ⟨1, 4, lStore, 0, 0⟩, ⟨4, 10, [], 16, 0⟩, ⟨6, 13, [44], 0, 0⟩, ⟨2, 15, [], 1, 0⟩, ⟨7, 17, [], 0, 0⟩, ⟨1, 18, lTrap, 0, 0⟩, ⟨0, 22, [], 0, 0⟩]).2.er ≠ 0 then ([], (progD [⟨3, 0, [], 0, 0⟩, ⟨6, 2, [58], 0, 0⟩, ⟨7, 3, [], 0, 0⟩, ⟨1, 4, lStore, 0, 0⟩, ⟨4, 10, [], 16, 0⟩, ⟨6, 13, [44], 0, 0⟩, ⟨2, 15, [], 1, 0⟩, ⟨7, 17, [], 0, 0⟩, ⟨1, 18, lTrap, 0, 0⟩, ⟨0, 22, [], 0, 0⟩]).2.pl, (progD [⟨3, 0, [], 0, 0⟩, ⟨6, 2, [58], 0, 0⟩, ⟨7, 3, [], 0, 0⟩, ⟨1, 4, lStore, 0, 0⟩, ⟨4, 10, [], 16, 0⟩, ⟨6, 13, [44], 0, 0⟩, ⟨2, 15, [], 1, 0⟩, ⟨7, 17, [], 0, 0⟩, ⟨1, 18, lTrap, 0, 0⟩, ⟨0, 22, [], 0, 0⟩]).2.er) else if checkA (progD [⟨3, 0, [], 0, 0⟩, ⟨6, 2, [58], 0, 0⟩, ⟨7, 3, [], 0, 0⟩, ⟨1, 4, lStore, 0, 0⟩, ⟨4, 10, [], 16, 0⟩, ⟨6, 13, [44], 0, 0⟩, ⟨2, 15, [], 1, 0⟩, ⟨7, 17, [], 0, 0⟩, ⟨1, 18, lTrap, 0, 0⟩, ⟨0, 22, [], 0, 0⟩]).1 ≠ 0 then ([], ((bytesOf fxB).size : Int), checkA (progD [⟨3, 0, [], 0, 0⟩, ⟨6, 2, [58], 0, 0⟩, ⟨7, 3, [], 0, 0⟩, ⟨1, 4, lStore, 0, 0⟩, ⟨4, 10, [], 16, 0⟩, ⟨6, 13, [44], 0, 0⟩, ⟨2, 15, [], 1, 0⟩, ⟨7, 17, [], 0, 0⟩, ⟨1, 18, lTrap, 0, 0⟩, ⟨0, 22, [], 0, 0⟩]).1) else ((progD [⟨3, 0, [], 0, 0⟩, ⟨6, 2, [58], 0, 0⟩, ⟨7, 3, [], 0, 0⟩, ⟨1, 4, lStore, 0, 0⟩, ⟨4, 10, [], 16, 0⟩, ⟨6, 13, [44], 0, 0⟩, ⟨2, 15, [], 1, 0⟩, ⟨7, 17, [], 0, 0⟩, ⟨1, 18, lTrap, 0, 0⟩, ⟨0, 22, [], 0, 0⟩]).1, 0, 0)) = ((([], 10, 2)) : List ABlk × Int × Int) := fun _ => by kernel_rfl
  exact h ()
set_option maxRecDepth 100000 in
theorem fxC_r : parseR (bytesOf fxC) = ([], 11, 9) := by
  have he : evT 0 fxC = [⟨3, 0, [], 0, 0⟩, ⟨6, 2, [58], 0, 0⟩, ⟨7, 3, [], 0, 0⟩, ⟨1, 4, lJump, 0, 0⟩, ⟨3, 9, [], 1, 0⟩, ⟨0, 11, [], 0, 0⟩] := by kernel_rfl
  refine (parseR_er (by decide) he (by decide)).trans ?_
  clear he
  have h : ∀ _ : Unit, (if (progD [⟨3, 0, [], 0, 0⟩, ⟨6, 2, [58], 0, 0⟩, ⟨7, 3, [], 0, 0⟩, ⟨1, 4, lJump, 0, 0⟩, ⟨3, 9, [], 1, 0⟩, ⟨0, 11, [], 0, 0⟩]).2.er ≠ 0 then ([], (progD [⟨3, 0, [], 0, 0⟩, ⟨6, 2, [58], 0, 0⟩, ⟨7, 3, [], 0, 0⟩, ⟨1, 4, lJump, 0, 0⟩, ⟨3, 9, [], 1, 0⟩, ⟨0, 11, [], 0, 0⟩]).2.pl, (progD [⟨3, 0, [], 0, 0⟩, ⟨6, 2, [58], 0, 0⟩, ⟨7, 3, [], 0, 0⟩, ⟨1, 4, lJump, 0, 0⟩, ⟨3, 9, [], 1, 0⟩, ⟨0, 11, [], 0, 0⟩]).2.er) else if checkA (progD [⟨3, 0, [], 0, 0⟩, ⟨6, 2, [58], 0, 0⟩, ⟨7, 3, [], 0, 0⟩, ⟨1, 4, lJump, 0, 0⟩, ⟨3, 9, [], 1, 0⟩, ⟨0, 11, [], 0, 0⟩]).1 ≠ 0 then ([], ((bytesOf fxC).size : Int), checkA (progD [⟨3, 0, [], 0, 0⟩, ⟨6, 2, [58], 0, 0⟩, ⟨7, 3, [], 0, 0⟩, ⟨1, 4, lJump, 0, 0⟩, ⟨3, 9, [], 1, 0⟩, ⟨0, 11, [], 0, 0⟩]).1) else ((progD [⟨3, 0, [], 0, 0⟩, ⟨6, 2, [58], 0, 0⟩, ⟨7, 3, [], 0, 0⟩, ⟨1, 4, lJump, 0, 0⟩, ⟨3, 9, [], 1, 0⟩, ⟨0, 11, [], 0, 0⟩]).1, 0, 0)) = ((([], 11, 9)) : List ABlk × Int × Int) := fun _ => by kernel_rfl
  exact h ()
theorem PW.drop {l : List (List UInt8)} {ks : List Tk} (h : PW l ks) : ∀ k, PW (l.drop k) (ks.drop k) := by
  induction h with
  | nil => intro k; rw [List.drop_nil, List.drop_nil]; exact .nil
  | cons h g ih =>
    intro k
    cases k with
    | zero => exact .cons h g
    | succ k => exact ih k
theorem PW.len {l : List (List UInt8)} {ks : List Tk} (h : PW l ks) : ks.length = l.length := by
  induction h with
  | nil => rfl
  | cons _ _ ih => simp [ih]
theorem spr_mem {l m : List Tk} (h : Spr l m) : ∀ x ∈ m, x ∈ l ∨ x = kNl := by
  induction h with
  | nil => intro x hx; simp at hx
  | one y _ ih =>
    intro x hx
    rcases List.mem_cons.1 hx with rfl | hx
    · exact .inl (by simp)
    · exact (ih x hx).imp (fun h => by simp [h]) id
  | two _ ih =>
    intro x hx
    simp only [List.mem_cons] at hx
    rcases hx with rfl | rfl | hx
    · exact .inr rfl
    · exact .inr rfl
    · exact (ih x hx).imp (fun h => by simp [h]) id
theorem word_zz : ∀ o : Fin 12, wordTab.getD o.val [] ≠ lZz := by decide
theorem tkI_zz {x : InsM} (h : InsV x) : ∀ y ∈ tkI x, y.t ≠ lZz := by
  cases h with
  | d o d a b ho hd ha hb =>
    intro y hy
    have hw := word_zz ⟨o, ho⟩
    simp only [tkI, List.mem_cons, List.not_mem_nil, or_false, if_true, if_false, Int.reduceEq, reduceIte] at hy
    rcases hy with rfl | rfl | rfl | rfl | rfl | rfl
    · simp [kR, lZz]
    · simp [kG, lZz]
    · exact hw
    · simp [kR, lZz]
    · simp [kG, lZz]
    · simp [kR, lZz]
  | _ =>
    intro y hy
    simp only [tkI, List.mem_cons, List.not_mem_nil, or_false, if_true, if_false, Int.reduceEq, reduceIte] at hy
    rcases hy with rfl | rfl | rfl | rfl | rfl | rfl <;> simp [kR, kG, kN, kW, kS, lZz, lIn, lOut, lLoad, lStore, lGet, lPut]
theorem tkL_zz {e a y n : Int} (h : LastV e a y n) : ∀ z ∈ tkL e a y n, z.t ≠ lZz := by
  cases h <;> (intro y hy; simp only [tkL, List.mem_cons, List.not_mem_nil, or_false, if_true, if_false, Int.reduceEq, reduceIte] at hy)
  all_goals (rcases hy with rfl | rfl | rfl | rfl | rfl | rfl) <;> simp [kR, kG, kW, kL, lZz, lJump, lBr, lRet, lTrap]
theorem tkPn_zz {P : List ABlk} (h : ∀ b ∈ P, BlkV b) : ∀ x ∈ tkPn P, x.t ≠ lZz := by
  intro x hx
  obtain ⟨b, hb, hx⟩ := List.mem_flatMap.1 hx
  have B := h b hb
  rcases List.mem_append.1 hx with hx | hx
  · unfold tkB at hx
    simp only [List.mem_cons, List.mem_append] at hx
    rcases hx with rfl | rfl | rfl | hx | hx
    · simp [kL, lZz]
    · simp [kG, lZz]
    · simp [kNl, lZz]
    · obtain ⟨y, hy, hx⟩ := List.mem_flatMap.1 hx
      rcases List.mem_append.1 hx with hx | hx
      · exact tkI_zz (B.i y hy) x hx
      · simp at hx; subst hx; simp [kNl, lZz]
    · exact tkL_zz B.e x hx
  · simp at hx; subst hx; simp [kNl, lZz]
/-- **A text of a program, with a word that no place takes: where it is.** -/
theorem zz_reads {P : List ABlk} (hP : ∀ b ∈ P, BlkP' b) (g : List Int) {i : Nat} (hi : i < (txP P).length) (hl : (txG g 0 ((txP P).take i) ++ ([122, 122, 32] ++ txG g 0 ((txP P).drop i))).length ≤ 100000) :
    parseR (bytesOf (txG g 0 ((txP P).take i) ++ ([122, 122, 32] ++ txG g 0 ((txP P).drop i)))) = ([], ((txG g 0 ((txP P).take i)).length : Int), 5) := by
  have hV : ∀ b ∈ P, BlkV b := fun b hb => (hP b hb).v
  have hw := pw_prog hP
  obtain ⟨m1, ⟨ws1, h1, rfl⟩, s1⟩ := (hw.take i).gaps g 0
  obtain ⟨m2, ⟨ws2, h2, rfl⟩, s2⟩ := (hw.drop i).gaps g 0
  have hz : Toks ([122, 122, 32] : List UInt8) [⟨1, 0, lZz, 0, 0⟩] := toks_piece (x := lZz) (k := 1) (t := lZz) (m := 0) ⟨fun p b => evT_word p lZz _ (by decide) (by decide) (nolet_sp b), by decide⟩
  generalize txG g 0 ((txP P).take i) = A at *
  generalize txG g 0 ((txP P).drop i) = B at *
  have he := h1.1 0 ([122, 122, 32] ++ B)
  rw [hz.1, h2.all, sh_zero] at he
  have hts : ∀ x ∈ ws1 ++ ([(⟨1, 0, lZz, 0, 0⟩ : Ev)].map (Ev.sh (0 + A.length)) ++ (ws2.map (Ev.sh (0 + A.length + ([122, 122, 32] : List UInt8).length)) ++ [⟨0, 0 + A.length + ([122, 122, 32] : List UInt8).length + B.length, [], 0, 0⟩])), x.e = 0 ∧ (x.t = lZz → x.p = A.length) := by
    intro x hx
    have q : ∀ {ws : List Ev} {ks : List Tk}, Spr ks (ws.map Ev.tk) → (∀ y ∈ ks, y.t ≠ lZz) → ∀ x ∈ ws, x.t ≠ lZz := fun {ws ks} hs hk x hx => by
      rcases spr_mem hs x.tk (List.mem_map_of_mem hx) with h | h
      · exact hk _ h
      · intro e; have := congrArg Tk.t h; rw [show x.tk.t = x.t from rfl, e] at this; exact absurd this (by decide)
    rcases List.mem_append.1 hx with hx | hx
    · exact ⟨h1.2 x hx, fun e => absurd e (q s1 (fun y hy => tkPn_zz hV y (List.mem_of_mem_take hy)) x hx)⟩
    rcases List.mem_append.1 hx with hx | hx
    · simp [Ev.sh] at hx
      subst hx
      exact ⟨rfl, fun _ => rfl⟩
    rcases List.mem_append.1 hx with hx | hx
    · obtain ⟨y, hy, rfl⟩ := List.mem_map.1 hx
      exact ⟨h2.2 y hy, fun e => absurd e (q s2 (fun y hy => tkPn_zz hV y (List.mem_of_mem_drop hy)) y hy)⟩
    · simp at hx
      subst hx
      exact ⟨rfl, fun e => by simp [lZz] at e⟩
  have hmap : ∀ d1 d2 d3, (ws1 ++ ([(⟨1, 0, lZz, 0, 0⟩ : Ev)].map (Ev.sh d1) ++ (ws2.map (Ev.sh d2) ++ [(⟨0, d3, [], 0, 0⟩ : Ev)]))).map Ev.tk = ws1.map Ev.tk ++ kZ :: (ws2.map Ev.tk ++ [kE]) := fun d1 d2 d3 => by
    rw [List.map_append, List.map_append, List.map_append, tk_sh, tk_sh]
    rfl
  have hm := hmap (0 + A.length) (0 + A.length + ([122, 122, 32] : List UInt8).length) (0 + A.length + ([122, 122, 32] : List UInt8).length + B.length)
  generalize ws1 ++ ([(⟨1, 0, lZz, 0, 0⟩ : Ev)].map (Ev.sh (0 + A.length)) ++ (ws2.map (Ev.sh (0 + A.length + ([122, 122, 32] : List UInt8).length)) ++ [⟨0, 0 + A.length + ([122, 122, 32] : List UInt8).length + B.length, [], 0, 0⟩])) = ts at *
  have H : ZOk ts (A.length : Int) := by
    refine ⟨by rw [← he]; exact tks_evT 0 _, fun st e => ?_⟩
    unfold curE at e ⊢
    cases hg : ts[st.nx]? with
    | none => rw [hg] at e; exact absurd e (by decide)
    | some x =>
      rw [hg] at e
      have := (hts x (List.mem_of_getElem? hg)).2 e
      show ((x.p : Nat) : Int) = _
      rw [this]
  have hd := progD_z H (r := ws2.map Ev.tk ++ [kE]) (j := i) hV (by rw [hm]; exact s1.app (Spr.refl _)) (by rw [show tkPl P = tkPn P from rfl, hw.len]; exact hi)
  rw [parseR_er hl he (fun x hx => (hts x hx).1), hd.1, hd.2, if_pos (by decide)]
theorem progA_zz {s : SmlM} (hl : lightB s = true) (hw : LinsWf s) (g : List Int) {i : Nat} (hi : i < (txP (progA s)).length) :
    parseR (bytesOf (txG g 0 ((txP (progA s)).take i) ++ ([122, 122, 32] ++ txG g 0 ((txP (progA s)).drop i)))) = ([], ((txG g 0 ((txP (progA s)).take i)).length : Int), 5) ∧
    (txG g 0 ((txP (progA s)).take i)).length ≤ 40000 ∧ (txG g 0 ((txP (progA s)).drop i)).length ≤ 40000 := by
  have h3 := progA_len hl
  have h1 := txG_len g (l := (txP (progA s)).take i) 0 (fun x hx => txP_tok (progA_64 hl hw) x (List.mem_of_mem_take hx))
  have h2 := txG_len g (l := (txP (progA s)).drop i) 0 (fun x hx => txP_tok (progA_64 hl hw) x (List.mem_of_mem_drop hx))
  rw [List.length_take] at h1
  rw [List.length_drop] at h2
  have q1 : (txG g 0 ((txP (progA s)).take i)).length ≤ 40000 := by omega
  have q2 : (txG g 0 ((txP (progA s)).drop i)).length ≤ 40000 := by omega
  refine ⟨zz_reads (progA_p hl hw) g hi ?_, q1, q2⟩
  rw [List.length_append, List.length_append]
  simp only [List.length_cons, List.length_nil]
  omega
/-- The last ones. -/
theorem SS.drop {n : Nat} {W : World} {b off m c : Nat} {l : List (List UInt8)} (h : SS n (.slice (some ⟨b, off, none⟩) m c) l W) (k : Nat) (hk : k ≤ l.length) : SS n (.slice (some ⟨b, off + k, none⟩) (m - k) (c - k)) (l.drop k) W := by
  obtain ⟨⟨h0, ⟨h1, h2⟩ | ⟨b', off', cap, cur, h1, h2, h3, h4, h5, h6⟩⟩, ho⟩ := h
  · cases h1
  · cases h1
    have hlk : (l.drop k).length = l.length - k := by rw [List.length_drop]
    refine ⟨⟨?_, .inr ⟨b, off + k, c - k, cur, ?_, h2, ?_, ?_, ?_, fun j hj => ?_⟩⟩, fun x hx => ho x (by simpa [blks] using hx)⟩
    · simp [svs]
    · rw [hlk]
    · rw [hlk]; omega
    · omega
    · omega
    · have hj2 : j < l.length - k := by rw [svs_len, Nat.mul_one, hlk] at hj; exact hj
      rw [show off + k + j = off + (k + j) by omega, h6 (k + j) (by simp [svs]; omega)]
      simp only [svs, List.getElem?_map]
      rw [List.getElem?_drop]
end Go.Proofs.YtgegdelinckfoaaDoor


/- ParsePlaces: the walk. -/
set_option linter.unusedSimpArgs false
set_option linter.unusedVariables false
namespace Go.Proofs.YtgegdelinckfoaaDoor
open Go.RowKit Go.Sort

set_option maxRecDepth 100000 in
set_option maxHeartbeats 16000000 in
theorem places_walk (s : SmlM) (av : Value) (a : List Int) (cut : Int) (w : World) (hE : Env w) (hK : Kinds w) (hW : WordsH w) (hs : SmlOk w s) (ha : CelL w 1 av a.length (a.flatMap fun y => [.int .u8 y])) (haw : ∀ y ∈ a, 0 ≤ y ∧ y ≤ 255) (hc : 0 ≤ cut ∧ cut ≤ 65535) :
    Calls Tryd.prog 4 #[.agg #[.int .u8 s.r, .bool s.bare, s.bv], av, .int .u16 cut] w fun r w' => r = .returned (.bool true) ∧ Tch [] w w' := by
  have hm : Tryd.prog.follows .mixedOrders = true := by kernel_rfl
  obtain ⟨ga, gc, rfl, hgl⟩ : ∃ x c, av = .slice x a.length c ∧ a.length ≤ maxLen := by obtain ⟨h0, x, c, h1, h2, h3⟩ := ha; exact ⟨x, c, h1, h2⟩
  unfold maxLen at hgl
  have HL := hid (fun W (h : SmlOk W s) => light_any s W h)
  have HPG := hid (fun W (hk : Kinds W) (h : SmlOk W s) hl => program_any s W hk h hl)
  obtain ⟨va, vc, hbv, _⟩ := hs.b.shape
  rw [hbv] at HL HPG
  rw [hbv]
  have HE := hid hE
  have HK := hid hK
  have HW := hid hW
  have HS := hid hs
  have HA := hid ha
  have HAW := hid haw
  have t0 : Tch [] w (w.alloc (.cells #[.int .u8 s.r, .bool s.bare, .slice va s.bs.length vc] 24)) := (Tch.refl [] w).alloc _
  have T0 := hid t0
  clear hE hK hW t0 hs ha haw hbv
  go_enter Tryd.func4, Tryd.ntmps4
  go_upto_region 3 with (go_at_call 21; refine (awake_p _ (HE.out.below (T0.out.below (Nat.le_refl _) (by simp))) (HK.out.tch T0.out) (HW.out.tch T0.out (by simp))).mono ?_; rintro r W1 ⟨rfl, t1⟩; have T1 := hid (T0.out.trans t1); have z := t1.obj (heap_alloc_new w (.cells #[.int .u8 s.r, .bool s.bare, .slice va s.bs.length vc] 24)) (by simp); have Z := hid z; have z0 := cell_of_row _ _ 0 _ _ _ z; have z1 := cell_of_row _ _ 1 _ _ _ z; have z2 := cell_of_row _ _ 2 _ _ _ z; simp only [List.getElem?_toArray, List.getElem?_cons_zero, List.getElem?_cons_succ] at z0 z1 z2; clear t1 z)
  by_cases hlb : lightB s = true
  · rw [hlb] at HL
    have HPG := hid (fun W (hk : Kinds W) (h : SmlOk W s) => HPG.out W hk h hlb)
    have HLB := hid hlb
    clear hlb
    by_cases h40 : a.length ≤ 40
    · go_upto_region 5 with (go_at_call 6; refine (HL.out _ (HS.out.tch T1.out)).mono ?_; rintro r W2 ⟨rfl, g2⟩; have T2 := hid (T1.out.trans g2.tch); have z := g2.tch.obj Z.out (by simp); have Z2 := hid z; have y0 := cell_of_row _ _ 0 _ _ _ z; have y1 := cell_of_row _ _ 1 _ _ _ z; have y2 := cell_of_row _ _ 2 _ _ _ z; simp only [List.getElem?_toArray, List.getElem?_cons_zero, List.getElem?_cons_succ] at y0 y1 y2; clear g2 z)
      have hnl := progA_len HLB.out
      have hne := txP_pos (progA_ne s)
      go_upto_region 6 with (first
        | (go_at_call 7; refine (HPG.out _ (HK.out.tch T2.out) (HS.out.tch T2.out)).mono ?_; rintro r W3 ⟨v, bp, bs, rfl, own, hab, g3⟩; obtain ⟨pa, pc, rfl⟩ := own.b.shape; have T3 := hid (T2.out.trans g3.tch); have PL := hid own.plp; have HAB := hid hab; clear own hab g3 y0 y1 y2)
        | (go_at_call 22; refine (tokens_p _ bs W3 PL.out (fun B hB => progA_64 HLB.out HS.out.lins _ (by rw [← HAB.out]; exact List.mem_map_of_mem hB)) (by rw [HAB.out]; omega)).mono ?_; rw [HAB.out]; rintro r W5 ⟨v5, rfl, s5, t5⟩; obtain ⟨bt5, of5, vc5, hv5⟩ := s5.s.ptr hne; obtain ⟨va5, vc6, hv6, hc5, hc6⟩ := s5.shapeC; subst hv5; cases hv6; unfold maxLen at hc6; have S5 := hid s5; have T5 := hid (T3.out.trans t5); clear s5 t5))
      have q1 : IntKind.i64.wrap cut = cut := by rw [IntKind.wrap_i64]; omega
      obtain ⟨kn, hkn⟩ : ∃ kn : Nat, cut.tmod ((txP (progA s)).length : Int) = (kn : Int) := ⟨(cut.tmod ((txP (progA s)).length : Int)).toNat, by rw [Int.toNat_of_nonneg (Int.tmod_nonneg _ hc.1)]⟩
      have hkl : kn < (txP (progA s)).length := by
        have := Int.tmod_lt_of_pos cut (b := ((txP (progA s)).length : Int)) (by omega)
        omega
      have q3 : IntKind.i64.wrap (kn : Int) = (kn : Int) := by rw [IntKind.wrap_i64]; omega
      have S6 := hid (S5.out.take hne kn (by omega))
      have S6d := hid (S5.out.drop kn (by omega))
      obtain ⟨PG1, ln1, ln2⟩ := progA_zz HLB.out HS.out.lins a hkl
      have HTA := hid (fun v n0 W h hg => text_gap v (.slice ga a.length gc) ((txP (progA s)).take kn) a n0 W h hg HAW.out (by omega))
      have HTB := hid (fun v n0 W h hg => text_gap v (.slice ga a.length gc) ((txP (progA s)).drop kn) a n0 W h hg HAW.out (by omega))
      generalize txP (progA s) = TP at *
      generalize txG a 0 (TP.take kn) = TA at *
      generalize txG a 0 (TP.drop kn) = TB at *
      generalize TP.take kn = TK at *
      generalize TP.drop kn = TD at *
      have ebs : bytesOf (TA ++ ([122, 122, 32] ++ TB)) = (bytesOf TA ++ (⟨#[122, 122, 32]⟩ : ByteArray)) ++ bytesOf TB := by
        rw [show (⟨#[122, 122, 32]⟩ : ByteArray) = bytesOf [122, 122, 32] from rfl, bytes_app, bytes_app, List.append_assoc]
      have sa := bytes_size TA
      have sb := bytes_size TB
      have hps1 : ((bytesOf TA ++ (⟨#[122, 122, 32]⟩ : ByteArray)) ++ bytesOf TB).size ≤ 1000000000000 := by
        rw [← ebs, bytes_size, List.length_append, List.length_append]; simp only [List.length_cons, List.length_nil]; omega
      rw [ebs, ← sa] at PG1
      have HR1 := hid PG1
      have HP1 := hid (fun W => parse_any ((bytesOf TA ++ (⟨#[122, 122, 32]⟩ : ByteArray)) ++ bytesOf TB) hps1 W)
      have e3 : (⟨#[122, 122, 32]⟩ : ByteArray).size = 3 := rfl
      have s3 : (bytesOf TA ++ (⟨#[122, 122, 32]⟩ : ByteArray)).size = (bytesOf TA).size + 3 := by rw [ByteArray.size_append, e3]
      have l3 : (bytesOf TA).size ≤ 40000 := by omega
      have l4 : (bytesOf TB).size ≤ 40000 := by omega
      clear hps1 PG1 PL ebs sa sb ln1 ln2
      generalize bytesOf TA = ta at *
      generalize bytesOf TB = tb' at *
      have HR2 := hid fxA_r
      have HR3 := hid fxB_r
      have HR4 := hid fxC_r
      have HP2 := hid (fun W => parse_any (bytesOf fxA) (by decide) W)
      have HP3 := hid (fun W => parse_any (bytesOf fxB) (by decide) W)
      have HP4 := hid (fun W => parse_any (bytesOf fxC) (by decide) W)
      have f2 : bytesOf fxA = ⟨#[64, 48, 58, 10, 37, 49, 32, 61, 32, 53, 10, 111, 117, 116, 32, 37, 49, 48, 48, 48, 48, 48, 10, 116, 114, 97, 112, 10]⟩ := rfl
      have f3 : bytesOf fxB = ⟨#[64, 48, 58, 10, 115, 116, 111, 114, 101, 32, 36, 49, 54, 44, 32, 37, 49, 10, 116, 114, 97, 112]⟩ := rfl
      have f4 : bytesOf fxC = ⟨#[64, 48, 58, 10, 106, 117, 109, 112, 32, 64, 49]⟩ := rfl
      rw [f2] at HR2 HP2
      rw [f3] at HR3 HP3
      rw [f4] at HR4 HP4
      clear f2 f3 f4
      have hkc : kn ≤ vc5 := by omega
      have hkd : kn ≤ TP.length := by omega
      go_upto_region 7 with fail
      go_upto_region 8 with (go_at_call 23; refine (HTA.out _ _ _ S6.out (HA.out.tch T5.out)).mono ?_; rintro r W6 ⟨rfl, t6⟩; have T6 := hid (T5.out.trans t6); have S7 := hid (S6d.out.tch t6 (by simp)); clear t6)
      go_upto_region 9 with (first
        | (go_at_call 23; refine (HTB.out _ _ _ S7.out (HA.out.tch T6.out)).mono ?_; rintro r W7 ⟨rfl, t7⟩; have T7 := hid (T6.out.trans t7); clear t7)
        | (go_at_call 24; refine (HP1.out _ (HE.out.below (T7.out.below (Nat.le_refl _) (by simp))) (HK.out.tch T7.out) (HW.out.tch T7.out (by simp))).mono ?_; rintro r W8 ⟨qa1, qc1, cs1, rfl, hab, t_, pg⟩; rw [HR1.out] at hab ⊢; have hnil : cs1 = [] := List.map_eq_nil_iff.1 hab; subst hnil; have T8 := hid (T7.out.trans t_); clear hab t_ pg))
      have T9 := hid (T8.out.alloc (.cells #[.slice qa1 0 qc1] 29))
      generalize W8.alloc (.cells #[.slice qa1 0 qc1] 29) = W9 at T9 ⊢
      go_upto_region 10 with (go_at_call 24; refine (HP2.out _ (HE.out.below (T9.out.below (Nat.le_refl _) (by simp))) (HK.out.tch T9.out) (HW.out.tch T9.out (by simp))).mono ?_; rintro r W10 ⟨qa2, qc2, cs2, rfl, hab, t_, pg⟩; rw [HR2.out] at hab ⊢; have hnil : cs2 = [] := List.map_eq_nil_iff.1 hab; subst hnil; have T10 := hid (T9.out.trans t_); clear hab t_ pg)
      have M := hid (heap_alloc_new W10 (.cells #[.slice qa2 0 qc2] 29))
      have T11 := hid (T10.out.alloc (.cells #[.slice qa2 0 qc2] 29))
      generalize W10.alloc (.cells #[.slice qa2 0 qc2] 29) = W11 at M T11 ⊢
      generalize W10.heap.size = q10 at M ⊢
      go_upto_region 11 with (go_at_call 24; refine (HP3.out _ (HE.out.below (T11.out.below (Nat.le_refl _) (by simp))) (HK.out.tch T11.out) (HW.out.tch T11.out (by simp))).mono ?_; rintro r W12 ⟨qa3, qc3, cs3, rfl, hab, t_, pg⟩; rw [HR3.out] at hab ⊢; have hnil : cs3 = [] := List.map_eq_nil_iff.1 hab; subst hnil; have T12 := hid (T11.out.trans t_); have M12 := hid (t_.obj M.out (by simp)); clear hab t_ pg)
      have T13 := hid (T12.out.alloc (.cells #[.slice qa3 0 qc3] 29))
      have M13 := hid (((Tch.refl [] W12).alloc (.cells #[.slice qa3 0 qc3] 29)).obj M12.out (by simp))
      generalize W12.alloc (.cells #[.slice qa3 0 qc3] 29) = W13 at T13 M13 ⊢
      go_upto_region 12 with (go_at_call 24; refine (HP4.out _ (HE.out.below (T13.out.below (Nat.le_refl _) (by simp))) (HK.out.tch T13.out) (HW.out.tch T13.out (by simp))).mono ?_; rintro r W14 ⟨qa4, qc4, cs4, rfl, hab, t_, pg⟩; rw [HR4.out] at hab ⊢; have hnil : cs4 = [] := List.map_eq_nil_iff.1 hab; subst hnil; have T14 := hid (T13.out.trans t_); have M14 := hid (t_.obj M13.out (by simp)); clear hab t_ pg)
      have T15 := hid (T14.out.alloc (.cells #[.slice qa4 0 qc4] 29))
      have M15 := hid (((Tch.refl [] W14).alloc (.cells #[.slice qa4 0 qc4] 29)).obj M14.out (by simp))
      generalize W14.alloc (.cells #[.slice qa4 0 qc4] 29) = W15 at T15 M15 ⊢
      have m15 : W15.cell? ⟨q10, 0, none⟩ = some (.slice qa2 0 qc2) := cell_of_row _ _ 0 _ _ _ M15.out
      have l15 := lt_of_obj M15.out
      go_wp2_with fail
      go_ret
      exact ⟨rfl, T15.out⟩
    · go_wp2_with (go_at_call 6; refine (HL.out _ (HS.out.tch T1.out)).mono ?_; rintro r W2 ⟨rfl, g2⟩; have T2 := hid (T1.out.trans g2.tch); clear g2)
      go_ret
      exact ⟨rfl, T2.out⟩
  · have hlf : lightB s = false := by simpa using hlb
    rw [hlf] at HL
    clear hlb hlf HPG
    go_wp2_with (go_at_call 6; refine (HL.out _ (HS.out.tch T1.out)).mono ?_; rintro r W2 ⟨rfl, g2⟩; have T2 := hid (T1.out.trans g2.tch); clear g2)
    go_ret
    exact ⟨rfl, T2.out⟩
end Go.Proofs.YtgegdelinckfoaaDoor

