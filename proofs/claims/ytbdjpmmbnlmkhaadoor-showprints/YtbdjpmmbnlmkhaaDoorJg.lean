/- Joined: Pnm, Pnw, Ttn, Ttg, Prt, Lnw, Prr, Prq. -/
import Derived.Test.YtbdjpmmbnlmkhaaDoorJe
import Derived.Test.YtbdjpmmbnlmkhaaDoorJf
import Derived.Test.YtbdjpmmbnlmkhaaDoorKg


/- ParseNumbers: its text, its block. -/
set_option linter.unusedSimpArgs false
set_option linter.unusedVariables false
namespace Go.Proofs.YtbdjpmmbnlmkhaaDoor
open Go.RowKit Go.Sort

/-- The text l is read as these tokens, whatever follows. -/
def RdK (l : List UInt8) (ks : List Tk) : Prop := ∃ ws, Toks l ws ∧ ws.map Ev.tk = ks
theorem tk_sh (d : Nat) (ws : List Ev) : (ws.map (Ev.sh d)).map Ev.tk = ws.map Ev.tk := by
  rw [List.map_map]; rfl
theorem RdK.nil : RdK [] [] := ⟨[], Toks.nil, rfl⟩
theorem RdK.app {l m : List UInt8} {ks js : List Tk} (h : RdK l ks) (k : RdK m js) : RdK (l ++ m) (ks ++ js) := by
  obtain ⟨ws, h1, rfl⟩ := h
  obtain ⟨us, k1, rfl⟩ := k
  exact ⟨_, h1.app k1, by rw [List.map_append, tk_sh]⟩
theorem RdK.eq {l m : List UInt8} {ks js : List Tk} (h : RdK l ks) (e1 : l = m) (e2 : ks = js) : RdK m js := by subst e1 e2; exact h
theorem rd_asks {c : UInt8} {k : Int} (h : Asks c k) (u : Nat) (hu : u < 100001) : RdK ((c :: Lib.decDigits u) ++ [32]) [⟨k, [], (u : Int)⟩] :=
  ⟨_, toks_piece (pr_asks h u hu), rfl⟩
theorem rd_sign {c : UInt8} (h : c = 61 ∨ c = 44 ∨ c = 58) : RdK ([c] ++ [32]) [kG c] := ⟨_, toks_piece (pr_sign h), rfl⟩
theorem rd_line : RdK [10] [kNl] := ⟨_, toks_line, rfl⟩
theorem rd_blank : RdK [32] [] := ⟨_, toks_blank, rfl⟩
/-- A number, and a line's end. -/
theorem rd_numl (n : Int) (h : W64 n) : RdK (Lib.itoa n ++ [10]) [kN n, kNl] := by
  unfold W64 at h
  refine ⟨[⟨5, 0, [], n, 0⟩, ⟨7, (Lib.itoa n).length, [], 0, 0⟩], ⟨fun p b => ?_, ?_⟩, rfl⟩
  · have h1 := evT_num p n h.1 h.2 (10 :: b) (fun c hc => by simp at hc; subst hc; unfold isDig; decide)
    rw [List.append_assoc, List.singleton_append, h1, evT_line]
    simp [Ev.sh, Nat.add_assoc, Nat.add_comm]
    congr 1; omega
  · intro x hx; simp at hx; rcases hx with rfl | rfl <;> rfl
def headB : List UInt8 := [64, 55, 58, 10]
theorem rd_head : RdK headB [kL 7, kG 58, kNl] := by
  refine ⟨[⟨3, 0, [], 7, 0⟩, ⟨6, 2, [58], 0, 0⟩, ⟨7, 3, [], 0, 0⟩], ⟨fun p b => ?_, ?_⟩, rfl⟩
  · have h1 := evT_asks p (c := 64) (k := 3) (by unfold Asks; decide) 7 (by omega) (58 :: 10 :: b) (fun c hc => by simp at hc; subst hc; unfold isDig; decide)
    rw [dec_small (by omega)] at h1
    have e : headB ++ b = 64 :: ([UInt8.ofNat (48 + 7)] ++ 58 :: 10 :: b) := rfl
    rw [e, h1, evT_sign _ 58 (.inr (.inr rfl)), evT_line]
    simp [Ev.sh, headB, Nat.add_assoc, Nat.add_comm]
    exact ⟨by omega, by congr 1; omega⟩
  · intro x hx; simp at hx; rcases hx with rfl | rfl | rfl <;> rfl
def lineB (i : Nat) (n : Int) : List UInt8 := (37 :: Lib.decDigits i) ++ ([32, 61, 32] ++ (Lib.itoa n ++ [10]))
theorem rd_lineB (i : Nat) (hi : i < 100001) (n : Int) (h : W64 n) : RdK (lineB i n) (tkI ⟨0, 0, i, 0, 0, n, 0⟩ ++ [kNl]) := by
  refine (((rd_asks (c := 37) (k := 2) (by unfold Asks; decide) i hi).app (rd_sign (c := 61) (.inl rfl))).app (rd_numl n h)).eq ?_ rfl
  simp [lineB]
def lnsF (i : Nat) : List Int → List UInt8
  | [] => []
  | n :: r => lineB i n ++ lnsF (i + 1) r
def insN (i : Nat) : List Int → List InsM
  | [] => []
  | n :: r => ⟨0, 0, i, 0, 0, n, 0⟩ :: insN (i + 1) r
theorem lnsF_snoc : ∀ (l : List Int) (i : Nat) (n : Int), lnsF i (l ++ [n]) = lnsF i l ++ lineB (i + l.length) n
  | [], i, n => by simp [lnsF]
  | x :: r, i, n => by
    rw [List.cons_append, lnsF, lnsF, lnsF_snoc r (i + 1) n, List.append_assoc]
    congr 3
    simp only [List.length_cons]; omega
theorem insN_snoc : ∀ (l : List Int) (i : Nat) (n : Int), insN i (l ++ [n]) = insN i l ++ [⟨0, 0, (i + l.length : Nat), 0, 0, n, 0⟩]
  | [], i, n => by simp [insN]
  | x :: r, i, n => by
    rw [List.cons_append, insN, insN, insN_snoc r (i + 1) n]
    simp only [List.length_cons, List.cons_append, List.cons.injEq, true_and]
    congr 3; omega
theorem insN_len : ∀ (l : List Int) (i : Nat), (insN i l).length = l.length
  | [], _ => rfl
  | x :: r, i => by rw [insN, List.length_cons, insN_len r, List.length_cons]
theorem rd_lns : ∀ (l : List Int) (i : Nat), i + l.length < 100000 → (∀ n ∈ l, W64 n) → RdK (lnsF i l) (tkIs (insN i l))
  | [], i, _, _ => RdK.nil
  | n :: r, i, hi, h => by
    simp only [List.length_cons] at hi
    refine ((rd_lineB i (by omega) n (h n (by simp))).app (rd_lns r (i + 1) (by omega) (fun m hm => h m (by simp [hm])))).eq rfl ?_
    rw [insN, tkIs_cons, List.append_assoc]
    rfl
theorem insN_v : ∀ (l : List Int) (i : Nat), i + l.length < 100000 → ∀ x ∈ insN i l, InsV x
  | [], i, _, x, h => by simp [insN] at h
  | n :: r, i, hi, x, h => by
    simp only [List.length_cons] at hi
    rw [insN] at h
    rcases List.mem_cons.1 h with rfl | h
    · exact .c _ _ (by omega)
    · exact insN_v r (i + 1) (by omega) x h
def nmP (l : List Int) : List ABlk := [⟨7, insN 0 l, 3, 0, 0, 0⟩]
theorem insN_e : ∀ (l : List Int) (i : Nat), i + l.length < 100000 → ∀ x ∈ insN i l, insE x = 0
  | [], i, _, x, h => by simp [insN] at h
  | n :: r, i, hi, x, h => by
    simp only [List.length_cons] at hi
    rw [insN] at h
    rcases List.mem_cons.1 h with rfl | h
    · simp [insE, insKindB, insOnlyB, io, kbb, kb, insRangeB, regB]; omega
    · exact insN_e r (i + 1) (by omega) x h
theorem firstE_all : ∀ {l : List Int}, (∀ x ∈ l, x = 0) → firstE l = 0
  | [], _ => rfl
  | x :: r, h => by
    unfold firstE
    rw [if_pos (h x (by simp))]
    exact firstE_all (fun y hy => h y (by simp [hy]))
theorem nm_check (l : List Int) (hl : l.length ≤ 40) : checkA (nmP l) = 0 := by
  have hb : blkE [7] ((⟨7, insN 0 l, 3, 0, 0, 0⟩ : ABlk).at (.slice none 0 0)) = 0 := by
    unfold blkE
    refine firstE_all (fun x hx => ?_)
    simp only [ABlk.at, List.map_nil, List.nil_append] at hx
    rcases List.mem_append.1 hx with h | h
    · obtain ⟨y, hy, rfl⟩ := List.mem_map.1 h
      exact insN_e l 0 (by omega) y hy
    · simp at h; subst h; decide
  have hc : countM ((nmP l).map fun b => b.at (.slice none 0 0)) ≤ 4000 := by
    simp [nmP, countM, ABlk.at, insN_len]; omega
  unfold checkA checkE
  rw [if_neg (by simp [nmP]), if_neg (by omega)]
  have hlabs : labsOf ((nmP l).map fun b => b.at (.slice none 0 0)) = [7] := rfl
  rw [hlabs, if_neg (by decide)]
  refine firstE_all (fun x hx => ?_)
  simp only [nmP, List.map_cons, List.map_nil, List.mem_singleton] at hx
  subst hx
  exact hb
theorem lineB_len (i : Nat) (hi : i < 100001) (n : Int) (h : W64 n) : (lineB i n).length ≤ 50 := by
  have h1 := dec_len20 i (by omega)
  have h2 := itoa_len n h
  simp [lineB]; omega
theorem lnsF_len : ∀ (l : List Int) (i : Nat), i + l.length < 100000 → (∀ n ∈ l, W64 n) → (lnsF i l).length ≤ 50 * l.length
  | [], _, _, _ => by simp [lnsF]
  | n :: r, i, hi, h => by
    simp only [List.length_cons] at hi
    have h1 := lineB_len i (by omega) n (h n (by simp))
    have h2 := lnsF_len r (i + 1) (by omega) (fun m hm => h m (by simp [hm]))
    rw [lnsF, List.length_append, List.length_cons]; omega
/-- **The text of ParseNumbers is read.** -/
theorem nm_reads (l : List Int) (hl : l.length ≤ 40) (h : ∀ n ∈ l, W64 n) : parseR (bytesOf (headB ++ lnsF 0 l ++ lTrap)) = (nmP l, 0, 0) := by
  obtain ⟨ws, h1, h2⟩ := rd_head.app (rd_lns l 0 (by omega) h)
  have hlen := lnsF_len l 0 (by omega) h
  have h4 := evT_word (0 + (headB ++ lnsF 0 l).length) lTrap [] (by decide) (by decide) (fun c hc => by simp at hc)
  have he : evT 0 (headB ++ lnsF 0 l ++ lTrap) = ws.map (Ev.sh 0) ++ [⟨1, 0 + (headB ++ lnsF 0 l).length, lTrap, 0, 0⟩, ⟨0, 0 + (headB ++ lnsF 0 l).length + lTrap.length, [], 0, 0⟩] := by
    rw [h1.1 0 lTrap, show lTrap = lTrap ++ [] by simp, h4]
    rfl
  refine parseR_of ?_ he ?_ true (P := nmP l) ?_ ?_ (nm_check l hl)
  · simp [headB, lTrap]; omega
  · intro x hx
    rcases List.mem_append.1 hx with hx | hx
    · obtain ⟨y, hy, rfl⟩ := List.mem_map.1 hx
      exact h1.2 y hy
    · simp at hx; rcases hx with rfl | rfl <;> rfl
  · intro b hb
    simp [nmP] at hb
    subst hb
    exact ⟨by simp, insN_v l 0 (by omega), .t⟩
  · rw [List.map_append, tk_sh, h2]
    have : tkP true (nmP l) = [kL 7, kG 58, kNl] ++ tkIs (insN 0 l) ++ [kW lTrap, kE] := by simp [nmP, tkP, tkB, tkL]
    rw [this]
    exact Spr.refl _
end Go.Proofs.YtbdjpmmbnlmkhaaDoor


/- ParseNumbers: the walk. -/
set_option linter.unusedSimpArgs false
set_option linter.unusedVariables false
namespace Go.Proofs.YtbdjpmmbnlmkhaaDoor
open Go.RowKit Go.Sort

/-- A block of the call's own whose instructions grow. -/
structure WB (w : World) (bb : Nat) (lab e a y n : Int) (ia : Option Addr) (ic : Nat) (ins : List InsM) (W : World) : Prop where
  m : W.heap[bb]? = some (.cells (bkC lab (.slice ia ins.length ic) e a y n) 50 (0, 0))
  i : Sl W 39 7 (.slice ia ins.length ic) ins.length (insC ins)
  o : ∀ b ∈ blks (.slice ia ins.length ic), w.heap.size ≤ b ∧ b ≠ bb
  t : Tch [] w W
  l : w.heap.size ≤ bb
variable {w W W' : World} {bb : Nat} {lab e a y n : Int} {ia : Option Addr} {ic : Nat} {ins : List InsM}
theorem WB.call (h : WB w bb lab e a y n ia ic ins W) (t : Tch [] W W') : WB w bb lab e a y n ia ic ins W' :=
  ⟨t.obj h.m (by simp), h.i.kept t (by simp), h.o, h.t.trans t, h.l⟩
theorem WB.cells (h : WB w bb lab e a y n ia ic ins W) : W.cell? ⟨bb, 0, none⟩ = some (.int .i64 lab) ∧ W.cell? ⟨bb, 1, none⟩ = some (.slice none 0 0) ∧ W.cell? ⟨bb, 2, none⟩ = some (.slice ia ins.length ic) ∧ W.cell? ⟨bb, 3, none⟩ = some (.int .u8 e) ∧ W.cell? ⟨bb, 4, none⟩ = some (.int .i64 a) ∧ W.cell? ⟨bb, 5, none⟩ = some (.int .i64 y) ∧ W.cell? ⟨bb, 6, none⟩ = some (.int .i64 n) ∧ (∀ j, W.frozen? ⟨bb, j, none⟩ = false) ∧ bb < W.heap.size :=
  ⟨cell_of_row _ _ 0 _ _ _ h.m, cell_of_row _ _ 1 _ _ _ h.m, cell_of_row _ _ 2 _ _ _ h.m, cell_of_row _ _ 3 _ _ _ h.m, cell_of_row _ _ 4 _ _ _ h.m, cell_of_row _ _ 5 _ _ _ h.m, cell_of_row _ _ 6 _ _ _ h.m, fun j => frozen_of_row _ _ j _ _ h.m, lt_of_obj h.m⟩
theorem WB.app {x : InsM} {va : Option Addr} {vn vc : Nat} {o : Obj} (h : WB w bb lab e a y n ia ic ins W) (hs : Sl W' 39 7 (.slice va vn vc) (ins.length + 1) (insC ins ++ x.cells)) (t : Tch (blks (.slice ia ins.length ic)) (W.alloc o) W')
    (hb : ∀ b ∈ blks (.slice va vn vc), b ∈ blks (.slice ia ins.length ic) ∨ (W.alloc o).heap.size ≤ b) :
    WB w bb lab e a y n va vc (ins ++ [x]) (W'.setCell ⟨bb, 2, none⟩ (.slice va vn vc)) ∧ W'.cell? ⟨bb, 2, none⟩ = some (.slice ia ins.length ic) ∧ (∀ j, W'.frozen? ⟨bb, j, none⟩ = false) := by
  have hvn : vn = (ins ++ [x]).length := by
    obtain ⟨a, q, e⟩ := hs.shape
    cases e
    simp
  have ta : Tch [] W (W.alloc o) := (Tch.refl [] W).alloc _
  have t1 : Tch (blks (.slice ia ins.length ic)) W W' := (ta.mono (by simp)).trans t
  have hm := t1.obj h.m (fun hx => (h.o _ hx).2 rfl)
  have hsz : (W.alloc o).heap.size = W.heap.size + 1 := Array.size_push _
  have hlt := lt_of_obj h.m
  have ht0 := h.t.size
  have hv : ∀ b ∈ blks (.slice va vn vc), w.heap.size ≤ b ∧ b ≠ bb := fun b hm => by
    rcases hb b hm with h1 | h1
    · exact h.o b h1
    · omega
  have t2 : Tch [bb] W' (W'.setCell ⟨bb, 2, none⟩ (.slice va vn vc)) := (Tch.refl _ _).setCell (.inl (by simp)) _
  have hl := h.l
  subst hvn
  refine ⟨⟨?_, ?_, hv, ?_, hl⟩, cell_of_row _ _ 2 _ _ _ hm, fun j => frozen_of_row _ _ j _ _ hm⟩
  · exact cells_set hm rfl
  · have q := hs.kept t2 (fun b hm h2 => by simp at h2; exact (hv b hm).2 h2)
    rw [insC_one] at q
    rw [List.length_append, List.length_singleton] at *
    exact q
  · exact (h.t.trans2 t1 (fun x hx => .inr (h.o x hx).1)).trans2 t2 (fun x hx => .inr (by simp at hx; omega))
/-- A program of one block, laid just now. -/
theorem one_plp (B : ABlk) {W : World} (iv : Value) (b : Nat) (hb : b = W.heap.size) (hi : Sl W 39 7 iv B.ins.length (insC B.ins)) : Plp (W.alloc (.cells (bkC B.lab iv B.e B.a B.y B.n) 50)) (.slice (some ⟨b, 0, none⟩) 1 1) [B.at iv] := by
  refine ⟨sl_new W b hb 50 7 1 (B.at iv).cells rfl (by decide), ?_, ?_, ?_⟩
  · intro X hX; simp at hX; subst hX; exact ⟨rfl, rfl⟩
  · intro X hX; simp at hX; subst hX; exact hi.kept ((Tch.refl [] W).alloc _) (by simp)
  · intro X hX; simp at hX; subst hX; have := hi.le; unfold maxLen at this; exact this
/-- Same, of a program and one of one block that was laid just now. -/
theorem same_one (B : ABlk) {w Wp : World} {v iv : Value} {bs : List BlkM} (t : Tch [] w Wp) (h : Plp Wp v bs) (hi : Sl Wp 39 7 iv B.ins.length (insC B.ins)) (he : bs.map BlkM.ab = [B]) :
    Calls Tryd.prog 47 #[.agg #[v], .agg #[.slice (some ⟨Wp.heap.size + 1, 0, none⟩) 1 1]] ((Wp.alloc (.cells #[v] 29)).alloc (.cells (bkC B.lab iv B.e B.a B.y B.n) 50)) fun e w' => e = .returned (.bool true) ∧ Tch [] w w' := by
  have ta : Tch [] Wp (Wp.alloc (.cells #[v] 29)) := (Tch.refl [] Wp).alloc _
  have tb : Tch [] (Wp.alloc (.cells #[v] 29)) ((Wp.alloc (.cells #[v] 29)).alloc (.cells (bkC B.lab iv B.e B.a B.y B.n) 50)) := (Tch.refl [] _).alloc _
  refine (same_true _ _ bs [B.at iv] _ ((h.tch ta).tch tb) (one_plp B iv (Wp.heap.size + 1) (by simp) (hi.kept ta (by simp))) (by rw [he]; rfl)).mono ?_
  rintro e w' ⟨rfl, t2⟩
  exact ⟨rfl, ((t.trans ta).trans tb).trans t2⟩
theorem bytes_lit (a : List UInt8) : (⟨a.toArray⟩ : ByteArray) = bytesOf a := rfl
theorem take_get {l : List Int} {k : Nat} {n : Int} (h : l[k]? = some n) : l.take (k + 1) = l.take k ++ [n] := by
  obtain ⟨hi, rfl⟩ := List.getElem?_eq_some_iff.1 h
  rw [List.take_succ_eq_append_getElem hi]
theorem nm_text (l : List Int) (k : Nat) (n : Int) (h : l[k]? = some n) : bytesOf (headB ++ lnsF 0 (l.take k)) ++ (((bytesOf (37 :: Lib.itoa (k : Int)) ++ (⟨#[32, 61, 32]⟩ : ByteArray)) ++ bytesOf (Lib.itoa n)) ++ (⟨#[10]⟩ : ByteArray)) = bytesOf (headB ++ lnsF 0 (l.take (k + 1))) := by
  have hk : k < l.length := (List.getElem?_eq_some_iff.1 h).1
  rw [show (⟨#[32, 61, 32]⟩ : ByteArray) = bytesOf [32, 61, 32] from rfl, show (⟨#[10]⟩ : ByteArray) = bytesOf [10] from rfl, bytes_app, bytes_app, bytes_app, bytes_app, take_get h, lnsF_snoc]
  congr 1
  simp [lineB, itoa_nat, Nat.min_eq_left (Nat.le_of_lt hk)]
theorem cells_i64 {w : World} {l : List Int} {b o m c : Nat} (h : CelL w 1 (.slice (some ⟨b, o, none⟩) m c) l.length (l.flatMap fun y => [.int .i64 y])) {k : Nat} {n : Int} (hk : l[k]? = some n) : w.cell? ⟨b, o + k, none⟩ = some (.int .i64 n) := by
  have hlt : k < l.length := (List.getElem?_eq_some_iff.1 hk).1
  obtain ⟨h0, a, c', h1, h2, h3⟩ := h
  cases h1
  rcases h3 with h3 | ⟨b', off', h4, h5⟩
  · omega
  · cases h4
    have g := fm_get (f := fun y : Int => [Value.int .i64 y]) (sz := 1) (fun _ => rfl) l k 0 n hk (by omega)
    rw [Nat.mul_one, Nat.add_zero] at g
    exact h5 k _ g
theorem celL_shape {w : World} {sz n : Nat} {v : Value} {cs : List Value} (h : CelL w sz v n cs) : ∃ a c, v = .slice a n c ∧ n ≤ maxLen ∧ (0 < n → ∃ b o, a = some ⟨b, o, none⟩) := by
  obtain ⟨h0, a, c, h1, h2, h3⟩ := h
  refine ⟨a, c, h1, h2, fun hn => ?_⟩
  rcases h3 with h3 | ⟨b, off, rfl, _⟩
  · omega
  · exact ⟨b, off, rfl⟩
end Go.Proofs.YtbdjpmmbnlmkhaaDoor


/- The laws' own Text, without gaps: each token, and a blank. -/
set_option linter.unusedSimpArgs false
set_option linter.unusedVariables false
namespace Go.Proofs.YtbdjpmmbnlmkhaaDoor
open Go.RowKit Go.Sort

def txT (l : List (List UInt8)) : List UInt8 := l.flatMap fun x => x ++ [32]
theorem txT_snoc {l : List (List UInt8)} {k : Nat} {x : List UInt8} (h : l[k]? = some x) : txT (l.take (k + 1)) = txT (l.take k) ++ (x ++ [32]) := by
  obtain ⟨hi, rfl⟩ := List.getElem?_eq_some_iff.1 h
  rw [List.take_succ_eq_append_getElem hi, txT, List.flatMap_append]
  simp [txT]
theorem svs_get {l : List (List UInt8)} {k : Nat} {x : List UInt8} (h : l[k]? = some x) : (svs l)[k]? = some (.string (bytesOf x)) := by
  rw [svs, List.getElem?_map, h]; rfl
theorem nl_eq (x : List UInt8) : ((bytesOf x).toList == (⟨#[10]⟩ : ByteArray).toList) = decide (x = [10]) := by
  by_cases h : x = [10]
  · subst h; rw [show bytesOf [10] = (⟨#[10]⟩ : ByteArray) from rfl]; simp
  · rw [decide_eq_false h, beq_eq_false_iff_ne]
    intro e
    rw [Lib.toList_data, Lib.toList_data] at e
    simp [bytesOf] at e
    exact h e
end Go.Proofs.YtbdjpmmbnlmkhaaDoor


/- The laws' own Text, with gaps. -/
set_option linter.unusedSimpArgs false
set_option linter.unusedVariables false
namespace Go.Proofs.YtbdjpmmbnlmkhaaDoor
open Go.RowKit Go.Sort

def gapK (g : List Int) (i : Nat) : Int := if g.length = 0 then 0 else g.getD (i % g.length) 0
def lNote : List UInt8 := [32, 35, 32, 116, 114, 97, 112, 32, 64]
def preG (x : List UInt8) (k : Int) : List UInt8 := if x = [10] ∧ k % 5 = 1 then lNote else if x = [10] ∧ k % 5 = 2 then [10, 32, 32] else []
def blG (k : Int) : List UInt8 := if k % 3 = 1 then [32, 32] else [32]
def pcG (x : List UInt8) (k : Int) : List UInt8 := preG x k ++ (x ++ blG k)
def txG (g : List Int) (i : Nat) : List (List UInt8) → List UInt8
  | [] => []
  | x :: r => pcG x (gapK g i) ++ txG g (i + 1) r
theorem txG_app (g : List Int) : ∀ (a b : List (List UInt8)) (i : Nat), txG g i (a ++ b) = txG g i a ++ txG g (i + a.length) b
  | [], b, i => by simp [txG]
  | x :: a, b, i => by
    rw [List.cons_append, txG, txG, txG_app g a b (i + 1), List.append_assoc, List.length_cons]
    congr 3; omega
theorem txG_snoc (g : List Int) {l : List (List UInt8)} {k : Nat} {x : List UInt8} (h : l[k]? = some x) : txG g 0 (l.take (k + 1)) = txG g 0 (l.take k) ++ pcG x (gapK g k) := by
  obtain ⟨hi, rfl⟩ := List.getElem?_eq_some_iff.1 h
  rw [List.take_succ_eq_append_getElem hi, txG_app]
  simp [txG, Nat.min_eq_left (Nat.le_of_lt hi)]
theorem txG_le (g : List Int) (l : List (List UInt8)) (k : Nat) : (txG g 0 (l.take k)).length ≤ (txG g 0 l).length := by
  conv => rhs; rw [← List.take_append_drop k l, txG_app, List.length_append]
  omega
theorem blG_cell (W : World) (k : Int) : (W.alloc (.cells #[.string ⟨#[32]⟩, .string ⟨#[32, 32]⟩, .string ⟨#[32]⟩] 9)).cell? ⟨W.heap.size, (k % 3).toNat, none⟩ = some (.string (bytesOf (blG k))) := by
  have h : k % 3 = 0 ∨ k % 3 = 1 ∨ k % 3 = 2 := by omega
  rw [cell_of_row _ W.heap.size (k % 3).toNat _ 9 (0, 0) (heap_alloc_new W _)]
  unfold blG
  rcases h with h | h | h <;> rw [h] <;> rfl
theorem gap_cell {w : World} {g : List Int} {b o m c : Nat} (h : CelL w 1 (.slice (some ⟨b, o, none⟩) m c) g.length (g.flatMap fun y => [.int .u8 y])) (k : Nat) (hg : 0 < g.length) : w.cell? ⟨b, o + k % g.length, none⟩ = some (.int .u8 (gapK g k)) := by
  have hlt : k % g.length < g.length := Nat.mod_lt _ hg
  obtain ⟨h0, a, c', h1, h2, h3⟩ := h
  cases h1
  rcases h3 with h3 | ⟨b', off', h4, h5⟩
  · omega
  · cases h4
    have hk : g[k % g.length]? = some (gapK g k) := by unfold gapK; rw [if_neg (by omega), List.getD_eq_getElem?_getD, List.getElem?_eq_getElem hlt]; rfl
    have q := fm_get (f := fun y : Int => [Value.int .u8 y]) (sz := 1) (fun _ => rfl) g (k % g.length) 0 (gapK g k) hk (by omega)
    rw [Nat.mul_one, Nat.add_zero] at q
    exact h5 _ _ q
theorem gapK_in {g : List Int} (h : ∀ y ∈ g, 0 ≤ y ∧ y ≤ 255) (k : Nat) : 0 ≤ gapK g k ∧ gapK g k ≤ 255 := by
  unfold gapK
  split
  · omega
  · have hlt : k % g.length < g.length := Nat.mod_lt _ (by omega)
    rw [List.getD_eq_getElem?_getD, List.getElem?_eq_getElem hlt]
    exact h _ (List.getElem_mem hlt)
end Go.Proofs.YtbdjpmmbnlmkhaaDoor


/- A program's tokens, as a text, are read as the program; what Check asks of it. -/
set_option linter.unusedSimpArgs false
set_option linter.unusedVariables false
namespace Go.Proofs.YtbdjpmmbnlmkhaaDoor
open Go.RowKit Go.Sort

theorem txT_app (a b : List (List UInt8)) : txT (a ++ b) = txT a ++ txT b := by simp [txT]
theorem txT_cons (x : List UInt8) (b : List (List UInt8)) : txT (x :: b) = (x ++ [32]) ++ txT b := by simp [txT]
theorem txT_nil : txT [] = [] := rfl
theorem rd_num (c : UInt8) (k : Int) (h : Asks c k) (n : Int) (h0 : 0 ≤ n) (h1 : n < 100000) : RdK ((c :: Lib.itoa n) ++ [32]) [⟨k, [], n⟩] := by
  obtain ⟨u, rfl⟩ : ∃ u : Nat, n = (u : Int) := ⟨n.toNat, by omega⟩
  rw [itoa_nat]
  exact rd_asks h u (by omega)
theorem rd_reg {n : Int} (h0 : 0 ≤ n) (h1 : n < 100000) : RdK (rg n ++ [32]) [kR n] := rd_num 37 2 (by unfold Asks; decide) n h0 h1
theorem rd_lab {n : Int} (h0 : 0 ≤ n) (h1 : n < 100000) : RdK (lb n ++ [32]) [kL n] := rd_num 64 3 (by unfold Asks; decide) n h0 h1
theorem rd_slot {n : Int} (h0 : 0 ≤ n) (h1 : n < 16) : RdK (sl n ++ [32]) [kS n] := rd_num 36 4 (by unfold Asks; decide) n h0 (by omega)
theorem rd_n {n : Int} (h : W64 n) : RdK (Lib.itoa n ++ [32]) [kN n] := ⟨_, toks_piece (pr_num n h.1 h.2), rfl⟩
theorem rd_word {l : List UInt8} (h0 : l ≠ []) (h : ∀ c ∈ l, 97 ≤ c.toNat ∧ c.toNat ≤ 122) (h4 : l.length ≤ 22) : RdK (l ++ [32]) [kW l] :=
  ⟨_, toks_piece (x := l) (k := 1) (t := l) (m := 0) ⟨fun p b => evT_word p l _ h0 h (nolet_sp b), h4⟩, rfl⟩
theorem rd_nl : RdK ([10] ++ [32]) [kNl] := ⟨_, toks_piece pr_line, rfl⟩
theorem rd_eq : RdK ([61] ++ [32]) [kG 61] := rd_sign (.inl rfl)
theorem rd_comma : RdK ([44] ++ [32]) [kG 44] := rd_sign (.inr (.inl rfl))
theorem rd_colon : RdK ([58] ++ [32]) [kG 58] := rd_sign (.inr (.inr rfl))
theorem rd_cons {x : List UInt8} {k : Tk} {l : List (List UInt8)} {ks : List Tk} (h : RdK (x ++ [32]) [k]) (g : RdK (txT l) ks) : RdK (txT (x :: l)) (k :: ks) := by
  rw [txT_cons]; exact h.app g
theorem word_let : ∀ o : Fin 12, wordTab.getD o.val [] ≠ [] ∧ (∀ c ∈ wordTab.getD o.val [], 97 ≤ c.toNat ∧ c.toNat ≤ 122) ∧ (wordTab.getD o.val []).length ≤ 22 := by decide
structure InsP (x : InsM) : Prop where
  v : InsV x
  d : 0 ≤ x.d
  a : 0 ≤ x.a
  b : 0 ≤ x.b
  s : 0 ≤ x.s
  n : W64 x.n
theorem rd_ins {x : InsM} (h : InsP x) : RdK (txT (txI x)) (tkI x) := by
  obtain ⟨v, d0, a0, b0, s0, n0⟩ := h
  cases v with
  | c d n hd => exact rd_cons (rd_reg d0 hd) (rd_cons rd_eq (rd_cons (rd_n n0) RdK.nil))
  | p d a hd ha => exact rd_cons (rd_reg d0 hd) (rd_cons rd_eq (rd_cons (rd_reg a0 ha) RdK.nil))
  | d o d a b ho hd ha hb =>
    have hw := word_let ⟨o, ho⟩
    have e : (((o : Nat) : Int) % 12).toNat = o := by omega
    have e2 : ((o : Nat) : Int).toNat = o := by omega
    have h1 : txI ⟨2, (o : Int), d, a, b, 0, 0⟩ = [rg d, [61], wordTab.getD o [], rg a, [44], rg b] := by
      show [rg d, [61], wordTab.getD (((o : Nat) : Int) % 12).toNat [], rg a, [44], rg b] = _
      rw [e]
    have h2 : tkI ⟨2, (o : Int), d, a, b, 0, 0⟩ = [kR d, kG 61, kW (wordTab.getD o []), kR a, kG 44, kR b] := rfl
    rw [h1, h2]
    exact rd_cons (rd_reg d0 hd) (rd_cons rd_eq (rd_cons (rd_word hw.1 hw.2.1 hw.2.2) (rd_cons (rd_reg a0 ha) (rd_cons rd_comma (rd_cons (rd_reg b0 hb) RdK.nil)))))
  | i d hd => exact rd_cons (rd_reg d0 hd) (rd_cons rd_eq (rd_cons (rd_word (l := lIn) (by decide) (by decide) (by decide)) RdK.nil))
  | o a ha => exact rd_cons (rd_word (l := lOut) (by decide) (by decide) (by decide)) (rd_cons (rd_reg a0 ha) RdK.nil)
  | l d s hd hs => exact rd_cons (rd_reg d0 hd) (rd_cons rd_eq (rd_cons (rd_word (l := lLoad) (by decide) (by decide) (by decide)) (rd_cons (rd_slot s0 hs) RdK.nil)))
  | s a s ha hs => exact rd_cons (rd_word (l := lStore) (by decide) (by decide) (by decide)) (rd_cons (rd_slot s0 hs) (rd_cons rd_comma (rd_cons (rd_reg a0 ha) RdK.nil)))
  | g d a hd ha => exact rd_cons (rd_reg d0 hd) (rd_cons rd_eq (rd_cons (rd_word (l := lGet) (by decide) (by decide) (by decide)) (rd_cons (rd_reg a0 ha) RdK.nil)))
  | u a b ha hb => exact rd_cons (rd_word (l := lPut) (by decide) (by decide) (by decide)) (rd_cons (rd_reg a0 ha) (rd_cons rd_comma (rd_cons (rd_reg b0 hb) RdK.nil)))
theorem rd_last {e a y n : Int} (v : LastV e a y n) (a0 : 0 ≤ a) (y0 : 0 ≤ y) (n0 : 0 ≤ n) : RdK (txT (txL e a y n)) (tkL e a y n) := by
  cases v with
  | j _ hy => exact rd_cons (rd_word (l := lJump) (by decide) (by decide) (by decide)) (rd_cons (rd_lab y0 hy) RdK.nil)
  | b _ _ _ ha hy hn => exact rd_cons (rd_word (l := lBr) (by decide) (by decide) (by decide)) (rd_cons (rd_reg a0 ha) (rd_cons rd_comma (rd_cons (rd_lab y0 hy) (rd_cons rd_comma (rd_cons (rd_lab n0 hn) RdK.nil)))))
  | r _ ha => exact rd_cons (rd_word (l := lRet) (by decide) (by decide) (by decide)) (rd_cons (rd_reg a0 ha) RdK.nil)
  | t => exact rd_cons (rd_word (l := lTrap) (by decide) (by decide) (by decide)) RdK.nil
theorem rd_inss : ∀ {l : List InsM}, (∀ x ∈ l, InsP x) → RdK (txT (txIs l)) (tkIs l)
  | [], _ => RdK.nil
  | x :: l, h => by
    have ih := rd_inss (l := l) (fun y hy => h y (List.mem_cons_of_mem _ hy))
    have h1 := (rd_ins (h x (by simp))).app (rd_nl.app ih)
    refine h1.eq ?_ ?_
    · show _ = txT (txIs (x :: l))
      rw [show txIs (x :: l) = txI x ++ ([10] :: txIs l) by simp [txIs], txT_app, txT_cons]
    · rw [tkIs_cons]; rfl
structure BlkP' (b : ABlk) : Prop where
  l : 0 ≤ b.lab ∧ b.lab < 100000
  i : ∀ x ∈ b.ins, InsP x
  e : LastV b.e b.a b.y b.n
  p : 0 ≤ b.a ∧ 0 ≤ b.y ∧ 0 ≤ b.n
theorem BlkP'.v {b : ABlk} (h : BlkP' b) : BlkV b := ⟨h.l.2, fun x hx => (h.i x hx).v, h.e⟩
def tkPn (P : List ABlk) : List Tk := P.flatMap fun b => tkB b ++ [kNl]
theorem tkP_false : ∀ P, tkP false P = tkPn P ++ [kE]
  | [] => rfl
  | b :: r => by
    rw [tkP, if_neg (by simp), tkP_false r]
    simp [tkPn]
theorem rd_blk {b : ABlk} (h : BlkP' b) : RdK (txT (txB b)) (tkB b ++ [kNl]) := by
  have h0 : RdK (txT ([[10]] : List (List UInt8))) [kNl] := rd_cons (l := []) (ks := []) rd_nl RdK.nil
  have h2 : RdK (txT (txIs b.ins ++ (txL b.e b.a b.y b.n ++ [[10]]))) (tkIs b.ins ++ (tkL b.e b.a b.y b.n ++ [kNl])) := by
    rw [txT_app, txT_app]
    exact (rd_inss h.i).app ((rd_last h.e h.p.1 h.p.2.1 h.p.2.2).app h0)
  have h1 := rd_cons (rd_lab h.l.1 h.l.2) (rd_cons rd_colon (rd_cons rd_nl h2))
  refine h1.eq ?_ ?_
  · unfold txB; simp
  · simp [tkB]
theorem rd_prog : ∀ {P : List ABlk}, (∀ b ∈ P, BlkP' b) → RdK (txT (txP P)) (tkPn P)
  | [], _ => RdK.nil
  | b :: r, h => by
    refine ((rd_blk (h b (by simp))).app (rd_prog (fun x hx => h x (by simp [hx])))).eq ?_ rfl
    rw [show txP (b :: r) = txB b ++ txP r by simp [txP], txT_app]
/-- **The text of a program is read as the program.** -/
theorem text_reads {P : List ABlk} (hP : ∀ b ∈ P, BlkP' b) (hc : checkA P = 0) (hl : (txT (txP P)).length ≤ 100000) : parseR (bytesOf (txT (txP P))) = (P, 0, 0) := by
  obtain ⟨ws, h1, h2⟩ := rd_prog hP
  have he := h1.all 0
  refine parseR_of hl he ?_ false (fun b hb => (hP b hb).v) ?_ hc
  · intro x hx
    rcases List.mem_append.1 hx with hx | hx
    · obtain ⟨y, hy, rfl⟩ := List.mem_map.1 hx
      exact h1.2 y hy
    · simp at hx; subst hx; rfl
  · rw [List.map_append, tk_sh, h2, tkP_false]
    exact Spr.refl _
theorem insP_of {x : InsM} (h : insE x = 0) (k0 : 0 ≤ x.k) (o0 : 0 ≤ x.o) (n0 : W64 x.n) : InsP x := by
  obtain ⟨k, o, d, a, b, n, s⟩ := x
  dsimp only at k0 o0 n0
  unfold insE at h
  split at h
  · cases h
  split at h
  · cases h
  split at h
  · cases h
  rename_i h1 h2 h3
  simp [insKindB] at h1
  simp [insOnlyB] at h2
  simp [insRangeB, regB] at h3
  have hk : k = 0 ∨ k = 1 ∨ k = 2 ∨ k = 3 ∨ k = 4 ∨ k = 5 ∨ k = 6 ∨ k = 7 ∨ k = 8 := by omega
  rcases hk with rfl | rfl | rfl | rfl | rfl | rfl | rfl | rfl | rfl <;> simp [io, kbb, kb] at h2
  · obtain ⟨rfl, rfl, rfl, rfl⟩ := h2; exact ⟨.c _ _ (by omega), by simp; omega, by simp, by simp, by simp, n0⟩
  · obtain ⟨rfl, rfl, rfl, rfl⟩ := h2; exact ⟨.p _ _ (by omega) (by omega), by simp; omega, by simp; omega, by simp, by simp, n0⟩
  · obtain ⟨rfl, rfl⟩ := h2
    obtain ⟨u, rfl⟩ : ∃ u : Nat, o = (u : Int) := ⟨o.toNat, by omega⟩
    exact ⟨.d u _ _ _ (by omega) (by omega) (by omega) (by omega), by simp; omega, by simp; omega, by simp; omega, by simp, n0⟩
  · obtain ⟨rfl, rfl, rfl, rfl, rfl⟩ := h2; exact ⟨.i _ (by omega), by simp; omega, by simp, by simp, by simp, n0⟩
  · obtain ⟨rfl, rfl, rfl, rfl, rfl⟩ := h2; exact ⟨.o _ (by omega), by simp, by simp; omega, by simp, by simp, n0⟩
  · obtain ⟨rfl, rfl, rfl, rfl⟩ := h2; exact ⟨.l _ _ (by omega) (by omega), by simp; omega, by simp, by simp, by simp; omega, n0⟩
  · obtain ⟨rfl, rfl, rfl, rfl⟩ := h2; exact ⟨.s _ _ (by omega) (by omega), by simp, by simp; omega, by simp, by simp; omega, n0⟩
  · obtain ⟨rfl, rfl, rfl, rfl⟩ := h2; exact ⟨.g _ _ (by omega) (by omega), by simp; omega, by simp; omega, by simp, by simp, n0⟩
  · obtain ⟨rfl, rfl, rfl, rfl⟩ := h2; exact ⟨.u _ _ (by omega) (by omega), by simp, by simp; omega, by simp; omega, by simp, n0⟩
end Go.Proofs.YtbdjpmmbnlmkhaaDoor


/- ParseLines: the walk. -/
set_option linter.unusedSimpArgs false
set_option linter.unusedVariables false
namespace Go.Proofs.YtbdjpmmbnlmkhaaDoor
open Go.RowKit Go.Sort

/-- The instruction of a line (of six registers), its number another one if it sets one. -/
def lnY (k o d a b s n16 n : Int) : InsM := ⟨k % 9, io (k % 9) 0 (o % 12), io (k % 9) 1 (d % 6), io (k % 9) 2 (a % 6), io (k % 9) 3 (b % 6), if k % 9 = 0 then n else io (k % 9) 4 n16, io (k % 9) 5 (s % 3)⟩
def lnB (k o d a b s n16 n e ra yes : Int) : ABlk := ⟨yes, [lnY k o d a b s n16 n], e % 4, lonlyA (e % 4) ra, lonlyY (e % 4) yes, lonlyN (e % 4) yes⟩
theorem ln_ins (k o d a b s n16 n : Int) (k0 : 0 ≤ k) (hn : W64 n) (hm : W64 n16) : insE (lnY k o d a b s n16 n) = 0 ∧ W64 (lnY k o d a b s n16 n).n := by
  have hk : k % 9 = 0 ∨ k % 9 = 1 ∨ k % 9 = 2 ∨ k % 9 = 3 ∨ k % 9 = 4 ∨ k % 9 = 5 ∨ k % 9 = 6 ∨ k % 9 = 7 ∨ k % 9 = 8 := by omega
  unfold lnY
  rcases hk with h | h | h | h | h | h | h | h | h <;> rw [h] <;> (refine ⟨?_, ?_⟩) <;> first
    | exact hn
    | exact w0
    | (simp [insE, insKindB, insOnlyB, io, kbb, kb, insRangeB, regB]; omega)
    | (simp [insE, insKindB, insOnlyB, io, kbb, kb, insRangeB, regB])
theorem ln_last (e ra yes : Int) (e0 : 0 ≤ e) (ha : 0 ≤ ra ∧ ra ≤ 65535) (hy : 0 ≤ yes ∧ yes ≤ 65535) : lastE [yes] (e % 4) (lonlyA (e % 4) ra) (lonlyY (e % 4) yes) (lonlyN (e % 4) yes) = 0 ∧ LastV (e % 4) (lonlyA (e % 4) ra) (lonlyY (e % 4) yes) (lonlyN (e % 4) yes) ∧ 0 ≤ lonlyA (e % 4) ra ∧ 0 ≤ lonlyY (e % 4) yes ∧ 0 ≤ lonlyN (e % 4) yes := by
  have he : e % 4 = 0 ∨ e % 4 = 1 ∨ e % 4 = 2 ∨ e % 4 = 3 := by omega
  have r0 : regB ra = true := by unfold regB; exact decide_eq_true (by omega)
  have r1 : regB 0 = true := by decide
  rcases he with h | h | h | h <;> rw [h]
  · exact ⟨by simp [lastE, lastOnlyB, lonlyA, lonlyY, lonlyN, llabs, r1, firstE], .j _ (by simp [lonlyY]; omega), by simp [lonlyA], by simp [lonlyY]; omega, by simp [lonlyN]⟩
  · exact ⟨by simp [lastE, lastOnlyB, lonlyA, lonlyY, lonlyN, llabs, r0, firstE], .b _ _ _ (by simp [lonlyA]; omega) (by simp [lonlyY]; omega) (by simp [lonlyN]; omega), by simp [lonlyA]; omega, by simp [lonlyY]; omega, by simp [lonlyN]; omega⟩
  · exact ⟨by simp [lastE, lastOnlyB, lonlyA, lonlyY, lonlyN, llabs, r0, firstE], .r _ (by simp [lonlyA]; omega), by simp [lonlyA]; omega, by simp [lonlyY], by simp [lonlyN]⟩
  · exact ⟨by simp [lastE, lastOnlyB, lonlyA, lonlyY, lonlyN, llabs, r1, firstE], .t, by simp [lonlyA], by simp [lonlyY], by simp [lonlyN]⟩
theorem ln_good (k o d a b s n16 n e ra yes : Int) (k0 : 0 ≤ k) (hn : W64 n) (hm : W64 n16) (e0 : 0 ≤ e) (ha : 0 ≤ ra ∧ ra ≤ 65535) (hy : 0 ≤ yes ∧ yes ≤ 65535) :
    checkA [lnB k o d a b s n16 n e ra yes] = 0 ∧ (∀ B ∈ [lnB k o d a b s n16 n e ra yes], BlkP' B) := by
  have h1 := ln_ins k o d a b s n16 n k0 hn hm
  have h2 := ln_last e ra yes e0 ha hy
  have hb : blkE [yes] ((lnB k o d a b s n16 n e ra yes).at (.slice none 0 0)) = 0 := by
    unfold blkE
    refine firstE_all (fun x hx => ?_)
    simp only [ABlk.at, lnB, List.map_nil, List.nil_append, List.map_cons] at hx
    simp at hx
    rcases hx with rfl | rfl
    · exact h1.1
    · exact h2.1
  refine ⟨?_, ?_⟩
  · unfold checkA checkE
    have hlabs : labsOf ([lnB k o d a b s n16 n e ra yes].map fun b => b.at (.slice none 0 0)) = [yes] := rfl
    have hcnt : countM ([lnB k o d a b s n16 n e ra yes].map fun b => b.at (.slice none 0 0)) = 2 := rfl
    rw [if_neg (by simp), if_neg (by rw [hcnt]; omega), hlabs]
    have hl : labsE [yes] [] = 0 := by unfold labsE; rw [if_neg (by omega), if_neg (by simp)]; rfl
    rw [if_neg (by rw [hl]; simp)]
    refine firstE_all (fun x hx => ?_)
    simp only [List.map_cons, List.map_nil, List.mem_singleton] at hx
    subst hx
    exact hb
  · intro B hB
    simp at hB
    subst hB
    refine ⟨by simp [lnB]; omega, fun x hx => ?_, h2.2.1, h2.2.2⟩
    simp [lnB] at hx
    subst hx
    refine insP_of h1.1 (by simp [lnY]; omega) ?_ h1.2
    show 0 ≤ io (k % 9) 0 (o % 12)
    unfold io; split <;> omega
theorem insV_64 {x : InsM} (h : InsP x) : Ins64 x := by
  obtain ⟨v, d0, a0, b0, s0, n0⟩ := h
  cases v <;> refine ⟨?_, ?_, ?_, ?_, ?_, ?_, ?_⟩ <;> first | exact n0 | (unfold W64; dsimp only at *; omega) | (dsimp only at *; omega)
theorem blk_64 {b : ABlk} (h : BlkP' b) : Blk64 b := by
  obtain ⟨l, i, e, p⟩ := h
  refine ⟨by unfold W64; omega, fun x hx => insV_64 (i x hx), ?_, ?_, ?_, ?_⟩
  · obtain ⟨lab, ins, e', a, y, n⟩ := b
    cases e <;> simp
  · obtain ⟨lab, ins, e', a, y, n⟩ := b
    cases e <;> first | exact w0 | (unfold W64; dsimp only at *; omega)
  · obtain ⟨lab, ins, e', a, y, n⟩ := b
    cases e <;> first | exact w0 | (unfold W64; dsimp only at *; omega)
  · obtain ⟨lab, ins, e', a, y, n⟩ := b
    cases e <;> first | exact w0 | (unfold W64; dsimp only at *; omega)
theorem txT_len : ∀ {l : List (List UInt8)}, (∀ x ∈ l, x.length ≤ 22) → (txT l).length ≤ 23 * l.length
  | [], _ => by simp [txT]
  | x :: l, h => by
    have h1 := h x (by simp)
    have h2 := txT_len (l := l) (fun y hy => h y (by simp [hy]))
    rw [txT_cons, List.length_append, List.length_append, List.length_cons]
    simp only [List.length_cons, List.length_nil]
    omega
theorem rg_len {n : Int} (h : W64 n) : (rg n).length ≤ 22 := by have := itoa_len n h; simp [rg]; omega
theorem lb_len {n : Int} (h : W64 n) : (lb n).length ≤ 22 := by have := itoa_len n h; simp [lb]; omega
theorem sl_len {n : Int} (h : W64 n) : (sl n).length ≤ 22 := by have := itoa_len n h; simp [sl]; omega
theorem word_len : ∀ o : Fin 12, (wordTab.getD o.val []).length ≤ 22 := by decide
theorem txI_tok {x : InsM} (h : Ins64 x) : ∀ t ∈ txI x, t.length ≤ 22 := by
  have hd := rg_len h.d
  have ha := rg_len h.a
  have hb := rg_len h.b
  have hs := sl_len h.s
  have hn : (Lib.itoa x.n).length ≤ 22 := by have := itoa_len x.n h.n; omega
  have hw := word_len ⟨(x.o % 12).toNat, by omega⟩
  dsimp only at hw
  intro t ht
  unfold txI at ht
  repeat' split at ht
  all_goals
    simp only [List.mem_cons, List.not_mem_nil, or_false] at ht
    rcases ht with rfl | rfl | rfl | rfl | rfl | rfl <;> first | assumption | decide
theorem txL_tok {e a y n : Int} (ha : W64 a) (hy : W64 y) (hn : W64 n) : ∀ t ∈ txL e a y n, t.length ≤ 22 := by
  have h1 := rg_len ha
  have h2 := lb_len hy
  have h3 := lb_len hn
  intro t ht
  unfold txL at ht
  repeat' split at ht
  all_goals
    simp only [List.mem_cons, List.not_mem_nil, or_false] at ht
    rcases ht with rfl | rfl | rfl | rfl | rfl | rfl <;> first | assumption | decide
theorem txB_tok {b : ABlk} (h : Blk64 b) : ∀ t ∈ txB b, t.length ≤ 22 := by
  intro t ht
  unfold txB at ht
  rcases List.mem_append.1 ht with ht | ht
  · rcases List.mem_append.1 ht with ht | ht
    · rcases List.mem_append.1 ht with ht | ht
      · simp only [List.mem_cons, List.not_mem_nil, or_false] at ht
        rcases ht with rfl | rfl | rfl
        · exact lb_len h.l
        · decide
        · decide
      · obtain ⟨x, hx, ht⟩ := List.mem_flatMap.1 ht
        rcases List.mem_append.1 ht with ht | ht
        · exact txI_tok (h.i x hx) t ht
        · simp at ht; subst ht; decide
    · exact txL_tok h.a h.y h.n t ht
  · simp at ht; subst ht; decide
theorem txP_tok {P : List ABlk} (h : ∀ b ∈ P, Blk64 b) : ∀ t ∈ txP P, t.length ≤ 22 := by
  intro t ht
  obtain ⟨b, hb, ht⟩ := List.mem_flatMap.1 ht
  exact txB_tok (h b hb) t ht
theorem txIs_len : ∀ (l : List InsM), (txIs l).length ≤ 7 * l.length
  | [] => by simp [txIs]
  | x :: l => by
    have h1 := txI_len x
    have h2 := txIs_len l
    rw [show txIs (x :: l) = (txI x ++ [[10]]) ++ txIs l by simp [txIs], List.length_append, List.length_append, List.length_cons]
    simp only [List.length_cons, List.length_nil]
    omega
theorem txB_len (b : ABlk) : (txB b).length ≤ 10 + 7 * b.ins.length := by
  have h1 := txIs_len b.ins
  have h2 := txL_len b.e b.a b.y b.n
  unfold txB
  simp only [List.length_append, List.length_cons, List.length_nil]
  omega
/-- What ParseLines has laid. -/
theorem ln_mem (W3 : World) (Y : InsM) (yes e a1 y1 n1 : Int) :
    Plp ((((W3.alloc (.cells (lsC e a1 y1 n1) 43)).alloc (.cells (xC Y) 39)).alloc (.cells (bkC yes (.slice (some ⟨W3.heap.size + 1, 0, none⟩) 1 1) e a1 y1 n1) 50)).alloc (.cells #[.slice (some ⟨W3.heap.size + 1 + 1, 0, none⟩) 1 1] 29)) (.slice (some ⟨W3.heap.size + 1 + 1, 0, none⟩) 1 1) [(⟨yes, [Y], e, a1, y1, n1⟩ : ABlk).at (.slice (some ⟨W3.heap.size + 1, 0, none⟩) 1 1)] ∧
    Tch [] W3 ((((W3.alloc (.cells (lsC e a1 y1 n1) 43)).alloc (.cells (xC Y) 39)).alloc (.cells (bkC yes (.slice (some ⟨W3.heap.size + 1, 0, none⟩) 1 1) e a1 y1 n1) 50)).alloc (.cells #[.slice (some ⟨W3.heap.size + 1 + 1, 0, none⟩) 1 1] 29)) ∧
    ((((W3.alloc (.cells (lsC e a1 y1 n1) 43)).alloc (.cells (xC Y) 39)).alloc (.cells (bkC yes (.slice (some ⟨W3.heap.size + 1, 0, none⟩) 1 1) e a1 y1 n1) 50)).alloc (.cells #[.slice (some ⟨W3.heap.size + 1 + 1, 0, none⟩) 1 1] 29)).heap[W3.heap.size + 1 + 1 + 1]? = some (.cells #[.slice (some ⟨W3.heap.size + 1 + 1, 0, none⟩) 1 1] 29 (0, 0)) := by
  have hi : Sl ((W3.alloc (.cells (lsC e a1 y1 n1) 43)).alloc (.cells (xC Y) 39)) 39 7 (.slice (some ⟨W3.heap.size + 1, 0, none⟩) 1 1) [Y].length (insC [Y]) := sl_new _ _ (by simp) 39 7 1 Y.cells rfl (by decide)
  refine ⟨(one_plp ⟨yes, [Y], e, a1, y1, n1⟩ _ _ (by simp) hi).tch ((Tch.refl [] _).alloc _), (((((Tch.refl [] W3).alloc _).alloc _).alloc _).alloc _), ?_⟩
  have hz : (((W3.alloc (.cells (lsC e a1 y1 n1) 43)).alloc (.cells (xC Y) 39)).alloc (.cells (bkC yes (.slice (some ⟨W3.heap.size + 1, 0, none⟩) 1 1) e a1 y1 n1) 50)).heap.size = W3.heap.size + 1 + 1 + 1 := by simp
  rw [← hz]
  exact heap_alloc_new _ _
end Go.Proofs.YtbdjpmmbnlmkhaaDoor


/- A program's tokens, as a text with gaps, are read as the program. -/
set_option linter.unusedSimpArgs false
set_option linter.unusedVariables false
namespace Go.Proofs.YtbdjpmmbnlmkhaaDoor
open Go.RowKit Go.Sort

/-- Text by text, read as these tokens. -/
inductive PW : List (List UInt8) → List Tk → Prop
  | nil : PW [] []
  | cons {x : List UInt8} {k : Tk} {l : List (List UInt8)} {ks : List Tk} (h : RdK (x ++ [32]) [k]) (g : PW l ks) : PW (x :: l) (k :: ks)
theorem PW.app {l m : List (List UInt8)} {ks js : List Tk} (h : PW l ks) (k : PW m js) : PW (l ++ m) (ks ++ js) := by
  induction h with
  | nil => exact k
  | cons h _ ih => exact .cons h ih
theorem PW.eq {l m : List (List UInt8)} {ks js : List Tk} (h : PW l ks) (e1 : l = m) (e2 : ks = js) : PW m js := by subst e1 e2; exact h
theorem RdK.uniq {l : List UInt8} {ks js : List Tk} (h : RdK l ks) (k : RdK l js) : ks = js := by
  obtain ⟨ws, h1, rfl⟩ := h
  obtain ⟨us, k1, rfl⟩ := k
  have e := (h1.all 0).symm.trans (k1.all 0)
  have e2 := congrArg (List.map Ev.tk) (List.append_cancel_right e)
  rwa [tk_sh, tk_sh] at e2
theorem rd_note : RdK (lNote ++ [10]) [kNl] := by
  have h : Toks [35, 32, 116, 114, 97, 112, 32, 64, 10] [⟨7, 8, [], 0, 0⟩] := by
    refine ⟨fun p b => ?_, by simp⟩
    have e := evT_note p [32, 116, 114, 97, 112, 32, 64] b (by decide)
    rw [show ([35, 32, 116, 114, 97, 112, 32, 64, 10] : List UInt8) ++ b = 35 :: ([32, 116, 114, 97, 112, 32, 64] ++ 10 :: b) from rfl, e, evT_line]
    simp [Ev.sh]
    omega
  exact (rd_blank.app ⟨_, h, rfl⟩).eq rfl rfl
theorem rd_bl {x : List UInt8} {ks : List Tk} (h : RdK (x ++ [32]) ks) (k : Int) : RdK (x ++ blG k) ks := by
  unfold blG
  split
  · exact (h.app rd_blank).eq (by simp) (by simp)
  · exact h
theorem rd_bl0 (k : Int) : RdK (blG k) [] := by
  unfold blG
  split
  · exact (rd_blank.app rd_blank).eq rfl rfl
  · exact rd_blank
theorem rd_pc {x : List UInt8} {t : Tk} (h : RdK (x ++ [32]) [t]) (k : Int) : RdK (pcG x k) [t] ∨ t = kNl ∧ RdK (pcG x k) [kNl, kNl] := by
  unfold pcG preG
  split
  · rename_i hx
    obtain ⟨rfl, _⟩ := hx
    obtain rfl : t = kNl := by simpa using h.uniq rd_nl
    exact .inl ((rd_note.app (rd_bl0 k)).eq (by simp) rfl)
  · split
    · rename_i hx
      obtain ⟨rfl, _⟩ := hx
      obtain rfl : t = kNl := by simpa using h.uniq rd_nl
      exact .inr ⟨rfl, ((((rd_line.app rd_blank).app rd_blank).app (rd_bl rd_nl k))).eq (by simp) rfl⟩
    · exact .inl (rd_bl h k)
theorem PW.gaps {l : List (List UInt8)} {ks : List Tk} (h : PW l ks) (g : List Int) : ∀ i, ∃ m, RdK (txG g i l) m ∧ Spr ks m := by
  induction h with
  | nil => exact fun i => ⟨[], RdK.nil, .nil⟩
  | cons h _ ih =>
    intro i
    obtain ⟨m, h1, h2⟩ := ih (i + 1)
    rcases rd_pc h (gapK g i) with q | ⟨rfl, q⟩
    · exact ⟨_, q.app h1, .one _ h2⟩
    · exact ⟨_, q.app h1, .two h2⟩
theorem pw_ins {x : InsM} (h : InsP x) : PW (txI x) (tkI x) := by
  obtain ⟨v, d0, a0, b0, s0, n0⟩ := h
  cases v with
  | c d n hd => exact PW.cons (rd_reg d0 hd) (PW.cons rd_eq (PW.cons (rd_n n0) PW.nil))
  | p d a hd ha => exact PW.cons (rd_reg d0 hd) (PW.cons rd_eq (PW.cons (rd_reg a0 ha) PW.nil))
  | d o d a b ho hd ha hb =>
    have hw := word_let ⟨o, ho⟩
    have e : (((o : Nat) : Int) % 12).toNat = o := by omega
    have e2 : ((o : Nat) : Int).toNat = o := by omega
    have h1 : txI ⟨2, (o : Int), d, a, b, 0, 0⟩ = [rg d, [61], wordTab.getD o [], rg a, [44], rg b] := by
      show [rg d, [61], wordTab.getD (((o : Nat) : Int) % 12).toNat [], rg a, [44], rg b] = _
      rw [e]
    have h2 : tkI ⟨2, (o : Int), d, a, b, 0, 0⟩ = [kR d, kG 61, kW (wordTab.getD o []), kR a, kG 44, kR b] := rfl
    rw [h1, h2]
    exact PW.cons (rd_reg d0 hd) (PW.cons rd_eq (PW.cons (rd_word hw.1 hw.2.1 hw.2.2) (PW.cons (rd_reg a0 ha) (PW.cons rd_comma (PW.cons (rd_reg b0 hb) PW.nil)))))
  | i d hd => exact PW.cons (rd_reg d0 hd) (PW.cons rd_eq (PW.cons (rd_word (l := lIn) (by decide) (by decide) (by decide)) PW.nil))
  | o a ha => exact PW.cons (rd_word (l := lOut) (by decide) (by decide) (by decide)) (PW.cons (rd_reg a0 ha) PW.nil)
  | l d s hd hs => exact PW.cons (rd_reg d0 hd) (PW.cons rd_eq (PW.cons (rd_word (l := lLoad) (by decide) (by decide) (by decide)) (PW.cons (rd_slot s0 hs) PW.nil)))
  | s a s ha hs => exact PW.cons (rd_word (l := lStore) (by decide) (by decide) (by decide)) (PW.cons (rd_slot s0 hs) (PW.cons rd_comma (PW.cons (rd_reg a0 ha) PW.nil)))
  | g d a hd ha => exact PW.cons (rd_reg d0 hd) (PW.cons rd_eq (PW.cons (rd_word (l := lGet) (by decide) (by decide) (by decide)) (PW.cons (rd_reg a0 ha) PW.nil)))
  | u a b ha hb => exact PW.cons (rd_word (l := lPut) (by decide) (by decide) (by decide)) (PW.cons (rd_reg a0 ha) (PW.cons rd_comma (PW.cons (rd_reg b0 hb) PW.nil)))
theorem pw_last {e a y n : Int} (v : LastV e a y n) (a0 : 0 ≤ a) (y0 : 0 ≤ y) (n0 : 0 ≤ n) : PW (txL e a y n) (tkL e a y n) := by
  cases v with
  | j _ hy => exact PW.cons (rd_word (l := lJump) (by decide) (by decide) (by decide)) (PW.cons (rd_lab y0 hy) PW.nil)
  | b _ _ _ ha hy hn => exact PW.cons (rd_word (l := lBr) (by decide) (by decide) (by decide)) (PW.cons (rd_reg a0 ha) (PW.cons rd_comma (PW.cons (rd_lab y0 hy) (PW.cons rd_comma (PW.cons (rd_lab n0 hn) PW.nil)))))
  | r _ ha => exact PW.cons (rd_word (l := lRet) (by decide) (by decide) (by decide)) (PW.cons (rd_reg a0 ha) PW.nil)
  | t => exact PW.cons (rd_word (l := lTrap) (by decide) (by decide) (by decide)) PW.nil
theorem pw_inss : ∀ {l : List InsM}, (∀ x ∈ l, InsP x) → PW (txIs l) (tkIs l)
  | [], _ => PW.nil
  | x :: l, h => by
    have ih := pw_inss (l := l) (fun y hy => h y (List.mem_cons_of_mem _ hy))
    have h1 := (pw_ins (h x (by simp))).app (PW.cons rd_nl ih)
    exact h1.eq (by simp [txIs]) (tkIs_cons _ _).symm
theorem pw_blk {b : ABlk} (h : BlkP' b) : PW (txB b) (tkB b ++ [kNl]) := by
  have h2 := (pw_inss h.i).app ((pw_last h.e h.p.1 h.p.2.1 h.p.2.2).app (PW.cons rd_nl PW.nil))
  have h1 := PW.cons (rd_lab h.l.1 h.l.2) (PW.cons rd_colon (PW.cons rd_nl h2))
  refine h1.eq ?_ ?_
  · unfold txB; simp
  · simp [tkB]
theorem pw_prog : ∀ {P : List ABlk}, (∀ b ∈ P, BlkP' b) → PW (txP P) (tkPn P)
  | [], _ => PW.nil
  | b :: r, h => ((pw_blk (h b (by simp))).app (pw_prog (fun x hx => h x (by simp [hx])))).eq (by simp [txP]) rfl
theorem PW.dropLast {l : List (List UInt8)} {ks : List Tk} (h : PW l ks) : PW l.dropLast ks.dropLast := by
  induction h with
  | nil => exact .nil
  | cons h g ih =>
    cases g with
    | nil => exact .nil
    | cons h2 g2 => exact .cons h ih
theorem tkP_true : ∀ {P : List ABlk}, P ≠ [] → tkP true P = (tkPn P).dropLast ++ [kE]
  | [], h => absurd rfl h
  | [b], _ => by simp [tkP, tkPn]
  | b :: c :: r, _ => by
    rw [tkP, if_neg (by simp), tkP_true (P := c :: r) (by simp)]
    rw [show tkPn (b :: c :: r) = (tkB b ++ [kNl]) ++ tkPn (c :: r) by simp [tkPn], List.dropLast_append_of_ne_nil (by simp [tkPn])]
    simp
/-- The tokens' texts, the last line's end cut or not. -/
def cutT (cut : Bool) (l : List (List UInt8)) : List (List UInt8) := if cut then l.dropLast else l
/-- **The text of a program, with gaps, is read as the program.** -/
theorem text_reads_gap {P : List ABlk} (hne : P ≠ []) (hP : ∀ b ∈ P, BlkP' b) (hc : checkA P = 0) (g : List Int) (cut : Bool) (hl : (txG g 0 (cutT cut (txP P))).length ≤ 100000) : parseR (bytesOf (txG g 0 (cutT cut (txP P)))) = (P, 0, 0) := by
  have hw : ∃ ks, PW (cutT cut (txP P)) ks ∧ tkP cut P = ks ++ [kE] := by
    cases cut
    · exact ⟨_, pw_prog hP, tkP_false P⟩
    · exact ⟨_, (pw_prog hP).dropLast, tkP_true hne⟩
  obtain ⟨ks, hw, hk⟩ := hw
  obtain ⟨m, ⟨ws, h1, rfl⟩, h2⟩ := hw.gaps g 0
  have he := h1.all 0
  refine parseR_of hl he ?_ cut (fun b hb => (hP b hb).v) ?_ hc
  · intro x hx
    rcases List.mem_append.1 hx with hx | hx
    · obtain ⟨y, hy, rfl⟩ := List.mem_map.1 hx
      exact h1.2 y hy
    · simp at hx; subst hx; rfl
  · rw [List.map_append, tk_sh, hk]
    exact h2.app (Spr.refl _)
end Go.Proofs.YtbdjpmmbnlmkhaaDoor


/- A program that Check takes is one that the text of it is read as; how long a text with gaps is. -/
set_option linter.unusedSimpArgs false
set_option linter.unusedVariables false
namespace Go.Proofs.YtbdjpmmbnlmkhaaDoor
open Go.RowKit Go.Sort

theorem pcG_len {x : List UInt8} (h : x.length ≤ 22) (k : Int) : (pcG x k).length ≤ 33 := by
  have h1 : (preG x k).length ≤ 9 := by unfold preG; split; · decide
                                        split <;> decide
  have h2 : (blG k).length ≤ 2 := by unfold blG; split <;> decide
  unfold pcG
  rw [List.length_append, List.length_append]
  omega
theorem txG_len (g : List Int) : ∀ {l : List (List UInt8)} (i : Nat), (∀ x ∈ l, x.length ≤ 22) → (txG g i l).length ≤ 33 * l.length
  | [], _, _ => by simp [txG]
  | x :: l, i, h => by
    have h1 := pcG_len (h x (by simp)) (gapK g i)
    have h2 := txG_len g (l := l) (i + 1) (fun y hy => h y (by simp [hy]))
    rw [txG, List.length_append, List.length_cons]
    omega
theorem lastV_of {labs : List Int} {e a y n : Int} (h : lastE labs e a y n = 0) (e0 : 0 ≤ e) (hl : ∀ x ∈ labs, 0 ≤ x ∧ x < 100000) : LastV e a y n ∧ 0 ≤ a ∧ 0 ≤ y ∧ 0 ≤ n := by
  unfold lastE at h
  split at h
  · cases h
  split at h
  · cases h
  split at h
  · cases h
  rename_i h1 h2 h3
  simp [lastOnlyB] at h2
  simp [regB] at h3
  have he : e = 0 ∨ e = 1 ∨ e = 2 ∨ e = 3 := by omega
  rcases he with rfl | rfl | rfl | rfl <;> simp [llabs, firstE, lonlyA, lonlyY, lonlyN] at h2 h
  · obtain ⟨rfl, rfl⟩ := h2
    have q := hl y (Classical.byContradiction fun c => c (h c))
    exact ⟨.j _ q.2, by omega, q.1, by omega⟩
  · have q : (0 ≤ y ∧ y < 100000) ∧ 0 ≤ n ∧ n < 100000 := by
      by_cases hy : y ∈ labs
      · refine ⟨hl y hy, ?_⟩
        by_cases hn : n ∈ labs
        · exact hl n hn
        · split at h
          · rename_i e; exact absurd (e ▸ hy) hn
          · simp [firstE, hy, hn] at h
      · split at h <;> simp [firstE, hy] at h
    exact ⟨.b _ _ _ h3.2 q.1.2 q.2.2, h3.1, q.1.1, q.2.1⟩
  · obtain ⟨rfl, rfl⟩ := h2
    exact ⟨.r _ h3.2, h3.1, by omega, by omega⟩
  · obtain ⟨rfl, rfl, rfl⟩ := h2
    exact ⟨.t, by omega, by omega, by omega⟩
end Go.Proofs.YtbdjpmmbnlmkhaaDoor

