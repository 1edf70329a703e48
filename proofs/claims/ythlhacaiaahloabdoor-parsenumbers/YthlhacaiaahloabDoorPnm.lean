
/- ParseNumbers: its text, its block. -/
import Derived.Test.YthlhacaiaahloabDoorJe
set_option linter.unusedSimpArgs false
set_option linter.unusedVariables false
namespace Go.Proofs.YthlhacaiaahloabDoor
open Go.RowKit Go.Sort

/-- The text l is read as these tokens, whatever follows. -/
def RdK (l : List UInt8) (ks : List Tk) : Prop := ∃ ws, Toks l ws ∧ ws.map Ev.tk = ks
theorem tk_sh (d : Nat) (ws : List Ev) : (ws.map (Ev.sh d)).map Ev.tk = ws.map Ev.tk := by
  rw [List.map_map]; rfl
theorem RdK.nil : RdK [] [] := ⟨[], Toks.nil, rfl⟩
theorem RdK.app {l m : List UInt8} {ks js : List Tk} (h : RdK l ks) (k : RdK m js) : RdK (l ++ m) (ks ++ js) := by
  obtain ⟨ws, h1, rfl⟩ := h
  obtain ⟨us, k1, rfl⟩ := k
  exact ⟨_, h1.app k1, by rw [List.map_append, tk_sh]⟩
theorem RdK.eq {l m : List UInt8} {ks js : List Tk} (h : RdK l ks) (e1 : l = m) (e2 : ks = js) : RdK m js := by subst e1 e2; exact h
theorem rd_asks {c : UInt8} {k : Int} (h : Asks c k) (u : Nat) (hu : u < 100001) : RdK ((c :: Lib.decDigits u) ++ [32]) [⟨k, [], (u : Int)⟩] :=
  ⟨_, toks_piece (pr_asks h u hu), rfl⟩
theorem rd_sign {c : UInt8} (h : c = 61 ∨ c = 44 ∨ c = 58) : RdK ([c] ++ [32]) [kG c] := ⟨_, toks_piece (pr_sign h), rfl⟩
theorem rd_line : RdK [10] [kNl] := ⟨_, toks_line, rfl⟩
theorem rd_blank : RdK [32] [] := ⟨_, toks_blank, rfl⟩
/-- A number, and a line's end. -/
theorem rd_numl (n : Int) (h : W64 n) : RdK (Lib.itoa n ++ [10]) [kN n, kNl] := by
  unfold W64 at h
  refine ⟨[⟨5, 0, [], n, 0⟩, ⟨7, (Lib.itoa n).length, [], 0, 0⟩], ⟨fun p b => ?_, ?_⟩, rfl⟩
  · have h1 := evT_num p n h.1 h.2 (10 :: b) (fun c hc => by simp at hc; subst hc; unfold isDig; decide)
    rw [List.append_assoc, List.singleton_append, h1, evT_line]
    simp [Ev.sh, Nat.add_assoc, Nat.add_comm]
    congr 1; omega
  · intro x hx; simp at hx; rcases hx with rfl | rfl <;> rfl
def headB : List UInt8 := [64, 55, 58, 10]
theorem rd_head : RdK headB [kL 7, kG 58, kNl] := by
  refine ⟨[⟨3, 0, [], 7, 0⟩, ⟨6, 2, [58], 0, 0⟩, ⟨7, 3, [], 0, 0⟩], ⟨fun p b => ?_, ?_⟩, rfl⟩
  · have h1 := evT_asks p (c := 64) (k := 3) (by unfold Asks; decide) 7 (by omega) (58 :: 10 :: b) (fun c hc => by simp at hc; subst hc; unfold isDig; decide)
    rw [dec_small (by omega)] at h1
    have e : headB ++ b = 64 :: ([UInt8.ofNat (48 + 7)] ++ 58 :: 10 :: b) := rfl
    rw [e, h1, evT_sign _ 58 (.inr (.inr rfl)), evT_line]
    simp [Ev.sh, headB, Nat.add_assoc, Nat.add_comm]
    exact ⟨by omega, by congr 1; omega⟩
  · intro x hx; simp at hx; rcases hx with rfl | rfl | rfl <;> rfl
def lineB (i : Nat) (n : Int) : List UInt8 := (37 :: Lib.decDigits i) ++ ([32, 61, 32] ++ (Lib.itoa n ++ [10]))
theorem rd_lineB (i : Nat) (hi : i < 100001) (n : Int) (h : W64 n) : RdK (lineB i n) (tkI ⟨0, 0, i, 0, 0, n, 0⟩ ++ [kNl]) := by
  refine (((rd_asks (c := 37) (k := 2) (by unfold Asks; decide) i hi).app (rd_sign (c := 61) (.inl rfl))).app (rd_numl n h)).eq ?_ rfl
  simp [lineB]
def lnsF (i : Nat) : List Int → List UInt8
  | [] => []
  | n :: r => lineB i n ++ lnsF (i + 1) r
def insN (i : Nat) : List Int → List InsM
  | [] => []
  | n :: r => ⟨0, 0, i, 0, 0, n, 0⟩ :: insN (i + 1) r
theorem lnsF_snoc : ∀ (l : List Int) (i : Nat) (n : Int), lnsF i (l ++ [n]) = lnsF i l ++ lineB (i + l.length) n
  | [], i, n => by simp [lnsF]
  | x :: r, i, n => by
    rw [List.cons_append, lnsF, lnsF, lnsF_snoc r (i + 1) n, List.append_assoc]
    congr 3
    simp only [List.length_cons]; omega
theorem insN_snoc : ∀ (l : List Int) (i : Nat) (n : Int), insN i (l ++ [n]) = insN i l ++ [⟨0, 0, (i + l.length : Nat), 0, 0, n, 0⟩]
  | [], i, n => by simp [insN]
  | x :: r, i, n => by
    rw [List.cons_append, insN, insN, insN_snoc r (i + 1) n]
    simp only [List.length_cons, List.cons_append, List.cons.injEq, true_and]
    congr 3; omega
theorem insN_len : ∀ (l : List Int) (i : Nat), (insN i l).length = l.length
  | [], _ => rfl
  | x :: r, i => by rw [insN, List.length_cons, insN_len r, List.length_cons]
theorem rd_lns : ∀ (l : List Int) (i : Nat), i + l.length < 100000 → (∀ n ∈ l, W64 n) → RdK (lnsF i l) (tkIs (insN i l))
  | [], i, _, _ => RdK.nil
  | n :: r, i, hi, h => by
    simp only [List.length_cons] at hi
    refine ((rd_lineB i (by omega) n (h n (by simp))).app (rd_lns r (i + 1) (by omega) (fun m hm => h m (by simp [hm])))).eq rfl ?_
    rw [insN, tkIs_cons, List.append_assoc]
    rfl
theorem insN_v : ∀ (l : List Int) (i : Nat), i + l.length < 100000 → ∀ x ∈ insN i l, InsV x
  | [], i, _, x, h => by simp [insN] at h
  | n :: r, i, hi, x, h => by
    simp only [List.length_cons] at hi
    rw [insN] at h
    rcases List.mem_cons.1 h with rfl | h
    · exact .c _ _ (by omega)
    · exact insN_v r (i + 1) (by omega) x h
def nmP (l : List Int) : List ABlk := [⟨7, insN 0 l, 3, 0, 0, 0⟩]
theorem insN_e : ∀ (l : List Int) (i : Nat), i + l.length < 100000 → ∀ x ∈ insN i l, insE x = 0
  | [], i, _, x, h => by simp [insN] at h
  | n :: r, i, hi, x, h => by
    simp only [List.length_cons] at hi
    rw [insN] at h
    rcases List.mem_cons.1 h with rfl | h
    · simp [insE, insKindB, insOnlyB, io, kbb, kb, insRangeB, regB]; omega
    · exact insN_e r (i + 1) (by omega) x h
theorem firstE_all : ∀ {l : List Int}, (∀ x ∈ l, x = 0) → firstE l = 0
  | [], _ => rfl
  | x :: r, h => by
    unfold firstE
    rw [if_pos (h x (by simp))]
    exact firstE_all (fun y hy => h y (by simp [hy]))
theorem nm_check (l : List Int) (hl : l.length ≤ 40) : checkA (nmP l) = 0 := by
  have hb : blkE [7] ((⟨7, insN 0 l, 3, 0, 0, 0⟩ : ABlk).at (.slice none 0 0)) = 0 := by
    unfold blkE
    refine firstE_all (fun x hx => ?_)
    simp only [ABlk.at, List.map_nil, List.nil_append] at hx
    rcases List.mem_append.1 hx with h | h
    · obtain ⟨y, hy, rfl⟩ := List.mem_map.1 h
      exact insN_e l 0 (by omega) y hy
    · simp at h; subst h; decide
  have hc : countM ((nmP l).map fun b => b.at (.slice none 0 0)) ≤ 4000 := by
    simp [nmP, countM, ABlk.at, insN_len]; omega
  unfold checkA checkE
  rw [if_neg (by simp [nmP]), if_neg (by omega)]
  have hlabs : labsOf ((nmP l).map fun b => b.at (.slice none 0 0)) = [7] := rfl
  rw [hlabs, if_neg (by decide)]
  refine firstE_all (fun x hx => ?_)
  simp only [nmP, List.map_cons, List.map_nil, List.mem_singleton] at hx
  subst hx
  exact hb
theorem lineB_len (i : Nat) (hi : i < 100001) (n : Int) (h : W64 n) : (lineB i n).length ≤ 50 := by
  have h1 := dec_len20 i (by omega)
  have h2 := itoa_len n h
  simp [lineB]; omega
theorem lnsF_len : ∀ (l : List Int) (i : Nat), i + l.length < 100000 → (∀ n ∈ l, W64 n) → (lnsF i l).length ≤ 50 * l.length
  | [], _, _, _ => by simp [lnsF]
  | n :: r, i, hi, h => by
    simp only [List.length_cons] at hi
    have h1 := lineB_len i (by omega) n (h n (by simp))
    have h2 := lnsF_len r (i + 1) (by omega) (fun m hm => h m (by simp [hm]))
    rw [lnsF, List.length_append, List.length_cons]; omega
/-- **The text of ParseNumbers is read.** -/
theorem nm_reads (l : List Int) (hl : l.length ≤ 40) (h : ∀ n ∈ l, W64 n) : parseR (bytesOf (headB ++ lnsF 0 l ++ lTrap)) = (nmP l, 0, 0) := by
  obtain ⟨ws, h1, h2⟩ := rd_head.app (rd_lns l 0 (by omega) h)
  have hlen := lnsF_len l 0 (by omega) h
  have h4 := evT_word (0 + (headB ++ lnsF 0 l).length) lTrap [] (by decide) (by decide) (fun c hc => by simp at hc)
  have he : evT 0 (headB ++ lnsF 0 l ++ lTrap) = ws.map (Ev.sh 0) ++ [⟨1, 0 + (headB ++ lnsF 0 l).length, lTrap, 0, 0⟩, ⟨0, 0 + (headB ++ lnsF 0 l).length + lTrap.length, [], 0, 0⟩] := by
    rw [h1.1 0 lTrap, show lTrap = lTrap ++ [] by simp, h4]
    rfl
  refine parseR_of ?_ he ?_ true (P := nmP l) ?_ ?_ (nm_check l hl)
  · simp [headB, lTrap]; omega
  · intro x hx
    rcases List.mem_append.1 hx with hx | hx
    · obtain ⟨y, hy, rfl⟩ := List.mem_map.1 hx
      exact h1.2 y hy
    · simp at hx; rcases hx with rfl | rfl <;> rfl
  · intro b hb
    simp [nmP] at hb
    subst hb
    exact ⟨by simp, insN_v l 0 (by omega), .t⟩
  · rw [List.map_append, tk_sh, h2]
    have : tkP true (nmP l) = [kL 7, kG 58, kNl] ++ tkIs (insN 0 l) ++ [kW lTrap, kE] := by simp [nmP, tkP, tkB, tkL]
    rw [this]
    exact Spr.refl _
end Go.Proofs.YthlhacaiaahloabDoor
