/- Joined: Shy, Shf, Shg, Shh. -/
import Derived.Test.YtbdjpmmbnlmkhaaDoorKs
import Derived.Test.YtbdjpmmbnlmkhaaDoorJa
import Derived.Test.YtbdjpmmbnlmkhaaDoorJc
import Derived.Deep.RegionHeld3
import Derived.Lib.MinMax
import Derived.Test.YtbdjpmmbnlmkhaaDoorKb


/- show's Instr, of any instruction. -/
set_option linter.unusedSimpArgs false
set_option linter.unusedVariables false
namespace Go.Proofs.YtbdjpmmbnlmkhaaDoor
open Go.RowKit Go.Sort

/-- What is put of an instruction. -/
def ptI (x : InsM) : List Pt :=
  if x.k = 0 then [.s [37], .i x.d, .s [32, 61, 32], .q x.n]
  else if x.k = 1 then [.s [37], .i x.d, .s [32, 61, 32], .s [37], .i x.a]
  else if x.k = 2 then [.s [37], .i x.d, .s [32, 61, 32], .s (wordTab.getD x.o.toNat []), .s [32, 37], .i x.a, .s [44, 32, 37], .i x.b]
  else if x.k = 3 then [.s [37], .i x.d, .s [32, 61, 32], .s [105, 110]]
  else if x.k = 4 then [.s [111, 117, 116, 32, 37], .i x.a]
  else if x.k = 5 then [.s [37], .i x.d, .s [32, 61, 32], .s [108, 111, 97, 100, 32, 36], .i x.s]
  else if x.k = 6 then [.s [115, 116, 111, 114, 101, 32, 36], .i x.s, .s [44, 32, 37], .i x.a]
  else if x.k = 7 then [.s [37], .i x.d, .s [32, 61, 32], .s [103, 101, 116, 32, 37], .i x.a]
  else [.s [112, 117, 116, 32, 37], .i x.a, .s [44, 32, 37], .i x.b]
structure InsS (x : InsM) : Prop where
  k : 0 ≤ x.k ∧ x.k < 9
  o : 0 ≤ x.o ∧ x.o < 12
  d : W64s x.d
  a : W64s x.a
  b : W64s x.b
  n : W64s x.n
  s : W64s x.s
theorem ptI_ne (x : InsM) : ptsT (ptI x) ≠ [] := by
  unfold ptI
  (repeat' split) <;> simp [ptsT, Pt.txt]
theorem word_le : ∀ o : Fin 12, (wordTab.getD o.val []).length ≤ 10 := by decide
theorem word_le' (o : Nat) (h : o < 12) : (wordTab.getD o []).length ≤ 10 := word_le ⟨o, h⟩
theorem WordsH.cell {w : World} (h : WordsH w) (o : Nat) (ho : o < 12) : w.cell? ⟨1, o, none⟩ = some (.string (bytesOf (wordTab.getD o []))) := by
  obtain ⟨t, fr, h⟩ := h
  have h1 : wordsA[o]? = some (.string (bytesOf (wordTab.getD o []))) := by
    rcases (show o = 0 ∨ o = 1 ∨ o = 2 ∨ o = 3 ∨ o = 4 ∨ o = 5 ∨ o = 6 ∨ o = 7 ∨ o = 8 ∨ o = 9 ∨ o = 10 ∨ o = 11 by omega) with rfl | rfl | rfl | rfl | rfl | rfl | rfl | rfl | rfl | rfl | rfl | rfl <;> rfl
  exact (cell_of_row _ _ o _ _ _ h).trans h1
theorem ptI_len (x : InsM) (h : InsS x) : (ptsT (ptI x)).length ≤ 100 := by
  have ld := itoa_le _ h.d
  have la := itoa_le _ h.a
  have lb := itoa_le _ h.b
  have lm := itoa_le _ h.n
  have ls := itoa_le _ h.s
  have lw := word_le' x.o.toNat (by have := h.o; omega)
  unfold ptI
  generalize wordTab.getD x.o.toNat [] = wd at lw ⊢
  (repeat' split) <;> simp [ptsT, Pt.txt] <;> omega
/-- **instr**, of any instruction. -/
theorem tinstr_any {n b : Nat} {p v : Value} {l : List UInt8} (x : InsM) (w : World) (h : Tx n b p v l w) (hE : Pw w) (hN : PwN n) (hK : Kinds w) (hW : WordsH w) (hwn : 1 < n) (hx : InsS x) (hlen : l.length ≤ 900000000) :
    Calls Tryd.prog 57 #[.pointer (some ⟨b, 0, none⟩), .agg (xC x)] w fun r w' => r = .returned (.tuple #[]) ∧ Put n b v (l ++ ptsT (ptI x)) w w' := by
  obtain ⟨k, o, d, a, b2, m, s⟩ := x
  obtain ⟨hk, ho, hd, ha, hb, hm, hs⟩ := hx
  dsimp only at hk ho hd ha hb hm hs
  rcases (show k = 0 ∨ k = 1 ∨ k = 2 ∨ k = 3 ∨ k = 4 ∨ k = 5 ∨ k = 6 ∨ k = 7 ∨ k = 8 by omega) with rfl | rfl | rfl | rfl | rfl | rfl | rfl | rfl | rfl
  · exact tinstr_0 o d a b2 m s w h hE hN hK hd ha hb hm hs hlen
  · exact tinstr_1 o d a b2 m s w h hE hN hK hd ha hb hm hs hlen
  · exact tinstr_2 (wordTab.getD o.toNat []) o d a b2 m s w h hE hN hK ho (word_le' _ (by omega)) (hW.cell _ (by omega)) hwn hd ha hb hlen
  · exact tinstr_3 o d a b2 m s w h hE hN hK hd ha hb hm hs hlen
  · exact tinstr_4 o d a b2 m s w h hE hN hK hd ha hb hm hs hlen
  · exact tinstr_5 o d a b2 m s w h hE hN hK hd ha hb hm hs hlen
  · exact tinstr_6 o d a b2 m s w h hE hN hK hd ha hb hm hs hlen
  · exact tinstr_7 o d a b2 m s w h hE hN hK hd ha hb hm hs hlen
  · exact tinstr_8 o d a b2 m s w h hE hN hK hd ha hb hm hs hlen
/-- **Instr**, printed. -/
theorem sinstr_any (x : InsM) (w : World) (hE : Pw w) (hN : PwN w.heap.size) (hK : Kinds w) (hW : WordsH w) (hx : InsS x) :
    Calls Tryd.prog 13 #[.agg (xC x)] w fun r w' => r = .returned (.string (bytesOf (ptsT (ptI x)))) ∧ Below w.heap.size w w' := by
  have t0 := ((Tch.refl [] w).alloc (.cells (xC x) 39)).alloc (.cells #[.pointer none, .slice none 0 0] 103)
  refine sinstr_of x.k x.o x.d x.a x.b x.n x.s (ptI x) w (ptI_ne x) ?_
  exact tinstr_any x _ (tx_box w _) (hE.tch t0 (by simp)) hN (hK.gr (((Gr.refl w).alloc _).alloc _)) (hW.tch t0 (by simp)) hW.pos hx (by simp)
end Go.Proofs.YtbdjpmmbnlmkhaaDoor


/- show's phi. -/
set_option linter.unusedSimpArgs false
set_option linter.unusedVariables false
namespace Go.Proofs.YtbdjpmmbnlmkhaaDoor
open Go.RowKit Go.Sort

/-- An entry, what is put of a phi. -/
def entT (f g : Int) : List UInt8 := ptsT [.s [32, 37], .i g, .s [32, 64], .i f]
def entsK (F G : List Int) (k : Nat) : List UInt8 := (List.range k).flatMap fun i => (if 0 < i then [44] else []) ++ entT (F.getD i 0) (G.getD i 0)
theorem entsK_snoc (F G : List Int) (k : Nat) : entsK F G (k + 1) = entsK F G k ++ ((if 0 < k then [44] else []) ++ entT (F.getD k 0) (G.getD k 0)) := by simp [entsK, List.range_succ]
def phT (d : Int) (F G : List Int) : List UInt8 := ptsT [.s [37], .i d, .s [32, 61, 32, 112, 104, 105]] ++ entsK F G (min F.length G.length)
theorem getD_w64 {F : List Int} (h : ∀ x ∈ F, W64s x) (k : Nat) : W64s (F.getD k 0) := by
  by_cases hk : k < F.length
  · rw [List.getD_eq_getElem?_getD, List.getElem?_eq_getElem hk]; exact h _ (List.getElem_mem hk)
  · rw [List.getD_eq_getElem?_getD, List.getElem?_eq_none (by omega)]; exact ⟨by decide, by decide⟩
theorem entsK_len {F G : List Int} (hF : ∀ x ∈ F, W64s x) (hG : ∀ x ∈ G, W64s x) : ∀ k, (entsK F G k).length ≤ 47 * k
  | 0 => by simp [entsK]
  | k + 1 => by
    have ih := entsK_len hF hG k
    have h1 := itoa_le _ (getD_w64 hF k)
    have h2 := itoa_le _ (getD_w64 hG k)
    rw [entsK_snoc]
    generalize F.getD k 0 = fk at h1 ⊢
    generalize G.getD k 0 = gk at h2 ⊢
    simp [entT, ptsT, Pt.txt]
    split <;> simp <;> omega
/-- One put more. -/
theorem PSt.step {n b : Nat} {v : Value} {w : World} {p : Value} {a : Option Addr} {c : Nat} {l : List UInt8} {W : World} (ps : List Pt) (h : PSt n b v w p a c l W) (hE : Pw w) (hN : PwN n) (hv : ∀ k ∈ blks v, n ≤ k) (hok : ∀ x ∈ ps, x.ok) (h0 : ps ≠ []) (hln : ps.length ≤ 100) (hlen : l.length + (ptsT ps).length ≤ 1000000000) (W2 : World) (t : Tch [] W W2) :
    Calls Tryd.prog 88 #[.pointer (some ⟨b, 0, none⟩), .slice (some ⟨W2.heap.size, 0, none⟩) ps.length ps.length] (W2.alloc (.cells (ps.map Pt.val).toArray 20)) fun e w' => e = .returned (.tuple #[]) ∧ ∃ a' c', PSt n b v w (.pointer (some ⟨b, 0, none⟩)) a' c' (l ++ ptsT ps) w' :=
  (put_new ps W W2 h.x t (h.pw hE hN hv) hN hok h0 hln hlen).mono fun e w' ⟨he, q⟩ => ⟨he, h.put q⟩
theorem PSt.start {n b : Nat} {p : Value} {a : Option Addr} {c : Nat} {l : List UInt8} {w w0 : World} (h : Tx n b p (.slice a l.length c) l w) (t : Tch [] w w0) : PSt n b (.slice a l.length c) w0 p a c l w0 :=
  ⟨Tch.refl _ _, h.tch t (by simp), fun j hj => .inl hj⟩
theorem PSt.fin {n b : Nat} {v : Value} {a : Option Addr} {c : Nat} {l : List UInt8} {w W : World} (h : PSt n b v w (.pointer (some ⟨b, 0, none⟩)) a c l W) : Put n b v l w W := ⟨a, c, h.t, h.x, h.k⟩
set_option maxRecDepth 100000 in
set_option maxHeartbeats 8000000 in
/-- **phi.** -/
theorem tphi_tx {n b : Nat} {p v : Value} {l : List UInt8} (d : Int) (fv gv : Value) (F G : List Int) (w : World) (h : Tx n b p v l w) (hE : Pw w) (hN : PwN n) (hd : W64s d) (hF : Sl w 3 1 fv F.length (ivals F)) (hG : Sl w 3 1 gv G.length (ivals G)) (hFn : ∀ k ∈ blks fv, k < n) (hGn : ∀ k ∈ blks gv, k < n) (hF64 : ∀ x ∈ F, W64s x) (hG64 : ∀ x ∈ G, W64s x) (hlen : l.length + 47 * F.length ≤ 900000000) :
    Calls Tryd.prog 55 #[.pointer (some ⟨b, 0, none⟩), .agg #[.int .i64 d, fv, gv]] w fun r w' => r = .returned (.tuple #[]) ∧ Put n b v (l ++ phT d F G) w w' := by
  have hmo : Tryd.prog.follows .mixedOrders = true := by kernel_rfl
  have k1 : Tryd.prog.concrete 9 = true := by kernel_rfl
  have k2 : Tryd.prog.concrete 3 = true := by kernel_rfl
  have hFl := hF.le
  have hGl := hG.le
  unfold maxLen at hFl hGl
  obtain ⟨va, vc, hv⟩ := h.s.shape
  subst hv
  obtain ⟨fa, fc, hv⟩ := hF.shape
  subst hv
  obtain ⟨ga, gc, hv⟩ := hG.shape
  subst hv
  have hHD : ∀ k ∈ blks (.slice va l.length vc), n ≤ k := fun k hk => (h.d k hk).1
  have HD := hid hHD
  have HN := hid hN
  have t0 := (Tch.refl [] w).alloc (.cells #[.int .i64 d, .slice fa F.length fc, .slice ga G.length gc] 33)
  have T0 := hid t0
  have HFs := hid (hF.kept t0 (by simp))
  have HGs := hid (hG.kept t0 (by simp))
  have HE := hid (hE.tch t0 (by simp))
  have hBX := heap_alloc_new w (.cells #[.int .i64 d, .slice fa F.length fc, .slice ga G.length gc] 33)
  have P := hid (PSt.start h t0)
  have HLT := hid h.lt
  have HNB := hid h.nb
  generalize hw0 : w.alloc (.cells #[.int .i64 d, .slice fa F.length fc, .slice ga G.length gc] 33) = w0 at *
  have hbs : w.heap.size < w0.heap.size := by rw [← hw0]; simp
  have HBX := hid hBX
  have NBX : Hid (¬ w.heap.size ∈ b :: blks (.slice va l.length vc)) := fun hmm => by
    rcases List.mem_cons.1 hmm with e | e
    · have := HLT.out.1; omega
    · have := HLT.out.2 _ e; omega
  have LOW : Hid (∀ g, g < n → ¬ g ∈ b :: blks (.slice va l.length vc)) := fun g hg hmm => by
    rcases List.mem_cons.1 hmm with rfl | hmm
    · have := HNB.out; omega
    · have := HD.out g hmm; omega
  have HFn := hid hFn
  have HGn := hid hGn
  have ld := itoa_le d hd
  have HQ1 : Hid (∀ (W : World) (pk : Nat), pk = W.heap.size → Tch [] w0 W → Calls Tryd.prog 88 #[.pointer (some ⟨b, 0, none⟩), .slice (some ⟨pk, 0, none⟩) 3 3] (W.alloc (.cells #[.iface 9 (.string ⟨#[37]⟩), .iface 3 (.int .i64 d), .iface 9 (.string ⟨#[32, 61, 32, 112, 104, 105]⟩)] 20)) fun r w' => r = .returned (.tuple #[]) ∧ ∃ a' c', PSt n b (.slice va l.length vc) w0 (.pointer (some ⟨b, 0, none⟩)) a' c' (l ++ ptsT [.s [37], .i d, .s [32, 61, 32, 112, 104, 105]]) w') := fun W pk hpk t => by subst hpk; exact P.out.step [.s [37], .i d, .s [32, 61, 32, 112, 104, 105]] HE.out HN.out HD.out (by intro x hx; simp only [List.mem_cons, List.not_mem_nil, or_false] at hx; rcases hx with rfl | rfl | rfl <;> first | trivial | exact hd) (by simp) (by simp) (by simp [ptsT, Pt.txt]; omega) W t
  have HLK : Hid (∀ k, (entsK F G k).length ≤ 47 * k) := entsK_len hF64 hG64
  have HHL : Hid ((l ++ ptsT [.s [37], .i d, .s [32, 61, 32, 112, 104, 105]]).length ≤ l.length + 30) := by show _ ≤ _; simp [ptsT, Pt.txt]; omega
  have HF64 := hid hF64
  have HG64 := hid hG64
  have HPO := hid (fun W (t : Tch (b :: blks (.slice va l.length vc)) w0 W) => t.obj HBX.out NBX.out)
  obtain ⟨m, hm⟩ : ∃ m : Nat, m = min F.length G.length := ⟨_, rfl⟩
  have hmF : m ≤ F.length := by omega
  have hmG : m ≤ G.length := by omega
  have hmi : min (F.length : Int) (G.length : Int) = (m : Int) := by omega
  have HM := hid hm
  clear h hE hN hd hF hG hFn hGn hF64 hG64 hHD t0 hBX ld hm
  go_enter Tryd.func55, Tryd.ntmps55
  go_upto_region 1 with fail
  try simp only [hw0]
  have q0 := cell_of_row _ _ 0 _ _ _ HBX.out
  simp only [List.getElem?_toArray, List.getElem?_cons_zero, List.getElem?_cons_succ] at q0
  go_upto_region 2 with (go_at_call 88; refine (HQ1.out _ _ rfl (Tch.refl [] w0)).mono ?_; rintro r w1 ⟨rfl, a1, c1, p1⟩; have P1 := hid p1; clear p1)
  have z1 := cell_of_row _ _ 1 _ _ _ (HPO.out _ P1.out.t)
  have z2 := cell_of_row _ _ 2 _ _ _ (HPO.out _ P1.out.t)
  simp only [List.getElem?_toArray, List.getElem?_cons_zero, List.getElem?_cons_succ] at z1 z2
  have lw1 := P1.out.t.size
  go_upto_region 3 with fail
  try rw [hmi]
  clear z1 z2 lw1 q0 HQ1 P
  go_loopw [4, 20] (fun _ vi wr => ∃ (k : Nat) (a : Option Addr) (c : Nat), vi = .int .i64 k ∧ k ≤ m ∧ Hid (PSt n b (.slice va l.length vc) w0 (.pointer (some ⟨b, 0, none⟩)) a c (l ++ ptsT [.s [37], .i d, .s [32, 61, 32, 112, 104, 105]] ++ entsK F G k) wr)) (fun _ vi _ => m - (intOf vi).toNat)
  case atStart => exact ⟨0, a1, c1, rfl, Nat.zero_le _, by show PSt _ _ _ _ _ _ _ _ _; simpa [entsK] using P1.out⟩
  case round =>
    clear P1
    obtain ⟨k, a, c, rfl, hk, P⟩ := hrel
    by_cases hlt : k < m
    · obtain ⟨fb, fo, hfa⟩ : ∃ fb fo, fa = some ⟨fb, fo, none⟩ := by obtain ⟨x, y, z, e⟩ := HFs.out.ptr (by omega); cases e; exact ⟨x, y, rfl⟩
      obtain ⟨gb, g0, hga⟩ : ∃ gb g0, ga = some ⟨gb, g0, none⟩ := by obtain ⟨x, y, z, e⟩ := HGs.out.ptr (by omega); cases e; exact ⟨x, y, rfl⟩
      subst hfa hga
      obtain ⟨fk, hfk⟩ : ∃ x, F[k]? = some x := ⟨F[k], by simp [show k < F.length by omega]⟩
      obtain ⟨gk, hgk⟩ : ∃ x, G[k]? = some x := ⟨G[k], by simp [show k < G.length by omega]⟩
      have hgf : F.getD k 0 = fk := by rw [List.getD_eq_getElem?_getD, hfk]; rfl
      have hgg : G.getD k 0 = gk := by rw [List.getD_eq_getElem?_getD, hgk]; rfl
      have HFK := hid (HF64.out fk (List.mem_of_getElem? hfk))
      have HGK := hid (HG64.out gk (List.mem_of_getElem? hgk))
      have lf := itoa_le fk HFK.out
      have lg := itoa_le gk HGK.out
      have LEN : Hid ((l ++ ptsT [.s [37], .i d, .s [32, 61, 32, 112, 104, 105]] ++ entsK F G k).length + 1 + (ptsT [.s [32, 37], .i gk, .s [32, 64], .i fk]).length ≤ 1000000000) := by
        show _ ≤ _
        have h1 := HLK.out k
        have h2 := HHL.out
        rw [List.length_append]
        have h3 : (ptsT [.s [32, 37], .i gk, .s [32, 64], .i fk]).length ≤ 50 := by simp [ptsT, Pt.txt]; omega
        omega
      have KS : Hid (∀ w', Tch (b :: blks (.slice va l.length vc)) w0 w' → w'.cell? ⟨w.heap.size, 1, none⟩ = some (.slice (some ⟨fb, fo, none⟩) F.length fc) ∧ w'.cell? ⟨w.heap.size, 2, none⟩ = some (.slice (some ⟨gb, g0, none⟩) G.length gc) ∧ w'.cell? ⟨fb, fo + k, none⟩ = some (.int .i64 fk) ∧ w'.cell? ⟨gb, g0 + k, none⟩ = some (.int .i64 gk)) := fun w' t => by
        have hr := HPO.out w' t
        refine ⟨cell_of_row _ _ 1 _ _ _ hr, cell_of_row _ _ 2 _ _ _ hr, ?_, ?_⟩
        · exact (HFs.out.kept t (fun x hx hmm => LOW.out x (HFn.out x hx) hmm)).cell.2.1 k _ (by simp [ivals, hfk])
        · exact (HGs.out.kept t (fun x hx hmm => LOW.out x (HGn.out x hx) hmm)).cell.2.1 k _ (by simp [ivals, hgk])
      have hkF : (k : Int) < (F.length : Int) := by omega
      have hkG : (k : Int) < (G.length : Int) := by omega
      clear hfk hgk lf lg
      by_cases hk0 : 0 < k
      · have hk0' : (0 : Int) < (k : Int) := by omega
        have HQC : Hid (∀ (W : World) (pk : Nat), pk = W.heap.size → Tch [] wr W → Calls Tryd.prog 88 #[.pointer (some ⟨b, 0, none⟩), .slice (some ⟨pk, 0, none⟩) 1 1] (W.alloc (.cells #[.iface 9 (.string ⟨#[44]⟩)] 20)) fun r w' => r = .returned (.tuple #[]) ∧ ∃ a' c', PSt n b (.slice va l.length vc) w0 (.pointer (some ⟨b, 0, none⟩)) a' c' (l ++ ptsT [.s [37], .i d, .s [32, 61, 32, 112, 104, 105]] ++ entsK F G k ++ ptsT [.s [44]]) w') := fun W pk hpk t => by subst hpk; exact P.out.step [.s [44]] HE.out HN.out HD.out (by intro x hx; simp only [List.mem_cons, List.not_mem_nil, or_false] at hx; subst hx; trivial) (by simp) (by simp) (by have := LEN.out; simp [ptsT, Pt.txt] at this ⊢; omega) W t
        go_upto_region 7 with (go_at_call 88; refine (HQC.out _ _ rfl (Tch.refl [] wr)).mono ?_; rintro r wc ⟨rfl, a2, c2, p2⟩; have P := hid p2; clear p2 HQC)
        have HSN : Hid (l ++ ptsT [.s [37], .i d, .s [32, 61, 32, 112, 104, 105]] ++ entsK F G (k + 1) = (l ++ ptsT [.s [37], .i d, .s [32, 61, 32, 112, 104, 105]] ++ entsK F G k ++ ptsT [.s [44]]) ++ ptsT [.s [32, 37], .i gk, .s [32, 64], .i fk]) := by show _ = _; rw [entsK_snoc, if_pos hk0, hgf, hgg]; simp [entT, show ptsT [.s [44]] = [44] from rfl]
        have HQ : Hid (∀ (W : World) (pk : Nat), pk = W.heap.size → Tch [] wc W → Calls Tryd.prog 88 #[.pointer (some ⟨b, 0, none⟩), .slice (some ⟨pk, 0, none⟩) 4 4] (W.alloc (.cells #[.iface 9 (.string ⟨#[32, 37]⟩), .iface 3 (.int .i64 gk), .iface 9 (.string ⟨#[32, 64]⟩), .iface 3 (.int .i64 fk)] 20)) fun r w' => r = .returned (.tuple #[]) ∧ ∃ a' c', PSt n b (.slice va l.length vc) w0 (.pointer (some ⟨b, 0, none⟩)) a' c' ((l ++ ptsT [.s [37], .i d, .s [32, 61, 32, 112, 104, 105]] ++ entsK F G k ++ ptsT [.s [44]]) ++ ptsT [.s [32, 37], .i gk, .s [32, 64], .i fk]) w') := fun W pk hpk t => by subst hpk; exact P.out.step [.s [32, 37], .i gk, .s [32, 64], .i fk] HE.out HN.out HD.out (by intro x hx; simp only [List.mem_cons, List.not_mem_nil, or_false] at hx; rcases hx with rfl | rfl | rfl | rfl <;> first | trivial | exact HGK.out | exact HFK.out) (by simp) (by simp) (by have := LEN.out; simp [ptsT, Pt.txt] at this ⊢; omega) W t
        have TX := hid (P.out.t.drew)
        refine wp_region_noPanic ?_
        refine wp_region_held_drew (S := fun w' => w'.cell? ⟨w.heap.size, 1, none⟩ = some (.slice (some ⟨fb, fo, none⟩) F.length fc) ∧ w'.cell? ⟨w.heap.size, 2, none⟩ = some (.slice (some ⟨gb, g0, none⟩) G.length gc) ∧ w'.cell? ⟨fb, fo + k, none⟩ = some (.int .i64 fk) ∧ w'.cell? ⟨gb, g0 + k, none⟩ = some (.int .i64 gk)) hmo (KS.out _ P.out.t.drew) (fun hHeld => ?_)
        replace HQ := hid (fun W pk hpk => HQ.out W pk hpk)
        generalize hx0 : wc.drew = x0 at hHeld TX ⊢
        have TD : Hid (Tch [] wc x0) := by subst hx0; exact (Tch.refl [] wc).drew
        clear hx0
        replace HQ := hid (fun pk hpk => HQ.out x0 pk hpk TD.out)
        refine wpAnyH_take (i := 0) (oi := { dst := some 29, op := Go.Op.move (Go.Operand.tmp 0), type := 144, pos := "text.go:54", after := #[], guard := none }) (v := ?_) rfl (by kernel_rfl) (by kernel_rfl) (by kernel_rfl) (fun _ _ _ h => h) (Or.inl ⟨by rfl, ?_⟩) (by assumption) ?_
        rotate_left
        (intro w hSw; (try dsimp only at hSw); go_simp; try (with_reducible rfl))
        simp only [Act.put, List.setIfInBounds_toArray, List.set_cons_zero, List.set_cons_succ]
        refine wpAnyH_take (i := 1) (oi := { dst := some 30, op := Go.Op.makeInterface 9 (Go.Operand.const (Go.Value.string { data := #[32, 37] })), type := 20, pos := "text.go:54", after := #[], guard := none }) (v := ?_) rfl (by kernel_rfl) (by kernel_rfl) (by kernel_rfl) (fun _ _ _ h => h) (Or.inl ⟨by rfl, ?_⟩) (by assumption) ?_
        rotate_left
        (intro w hSw; (try dsimp only at hSw); go_simp; try (with_reducible rfl))
        simp only [Act.put, List.setIfInBounds_toArray, List.set_cons_zero, List.set_cons_succ]
        refine wpAnyH_take (i := 2) (oi := { dst := some 31, op := Go.Op.fieldAddr 33 (Go.Operand.tmp 3) 2, type := 0, pos := "text.go:54", after := #[], guard := none }) (v := ?_) rfl (by kernel_rfl) (by kernel_rfl) (by kernel_rfl) (fun _ _ _ h => h) (Or.inl ⟨by rfl, ?_⟩) (by assumption) ?_
        rotate_left
        (intro w hSw; (try dsimp only at hSw); go_simp; try (with_reducible rfl))
        simp only [Act.put, List.setIfInBounds_toArray, List.set_cons_zero, List.set_cons_succ]
        refine wpAnyH_take (i := 3) (oi := { dst := some 32, op := Go.Op.load 31 (Go.Operand.tmp 31), type := 31, pos := "text.go:54", after := #[{ on := 2, ground := Go.Ground.data }], guard := none }) (v := ?_) rfl (by kernel_rfl) (by kernel_rfl) (by kernel_rfl) (fun _ _ _ h => h) (Or.inl ⟨by rfl, ?_⟩) (by assumption) ?_
        rotate_left
        (intro w hSw; (try dsimp only at hSw); go_simp; try (with_reducible rfl))
        simp only [Act.put, List.setIfInBounds_toArray, List.set_cons_zero, List.set_cons_succ]
        refine wpAnyH_take (i := 4) (oi := { dst := some 33, op := Go.Op.move (Go.Operand.tmp 4), type := 3, pos := "text.go:54", after := #[], guard := none }) (v := ?_) rfl (by kernel_rfl) (by kernel_rfl) (by kernel_rfl) (fun _ _ _ h => h) (Or.inl ⟨by rfl, ?_⟩) (by assumption) ?_
        rotate_left
        (intro w hSw; (try dsimp only at hSw); go_simp; try (with_reducible rfl))
        simp only [Act.put, List.setIfInBounds_toArray, List.set_cons_zero, List.set_cons_succ]
        refine wpAnyH_take (i := 5) (oi := { dst := some 34, op := Go.Op.indexAddr 31 (Go.Operand.tmp 32) (Go.Operand.tmp 33), type := 0, pos := "text.go:54", after := #[{ on := 3, ground := Go.Ground.data }, { on := 4, ground := Go.Ground.data }], guard := none }) (v := ?_) rfl (by kernel_rfl) (by kernel_rfl) (by kernel_rfl) (fun _ _ _ h => h) (Or.inl ⟨by rfl, ?_⟩) (by assumption) ?_
        rotate_left
        (intro w hSw; (try dsimp only at hSw); go_simp; try (with_reducible rfl))
        simp only [Act.put, List.setIfInBounds_toArray, List.set_cons_zero, List.set_cons_succ]
        refine wpAnyH_take (i := 6) (oi := { dst := some 35, op := Go.Op.load 3 (Go.Operand.tmp 34), type := 3, pos := "text.go:54", after := #[{ on := 5, ground := Go.Ground.data }], guard := none }) (v := ?_) rfl (by kernel_rfl) (by kernel_rfl) (by kernel_rfl) (fun _ _ _ h => h) (Or.inl ⟨by rfl, ?_⟩) (by assumption) ?_
        rotate_left
        (intro w hSw; (try dsimp only at hSw); go_simp; try (with_reducible rfl))
        simp only [Act.put, List.setIfInBounds_toArray, List.set_cons_zero, List.set_cons_succ]
        refine wpAnyH_take (i := 7) (oi := { dst := some 36, op := Go.Op.makeInterface 3 (Go.Operand.tmp 35), type := 20, pos := "text.go:54", after := #[{ on := 6, ground := Go.Ground.data }], guard := none }) (v := ?_) rfl (by kernel_rfl) (by kernel_rfl) (by kernel_rfl) (fun _ _ _ h => h) (Or.inl ⟨by rfl, ?_⟩) (by assumption) ?_
        rotate_left
        (intro w hSw; (try dsimp only at hSw); go_simp; try (with_reducible rfl))
        simp only [Act.put, List.setIfInBounds_toArray, List.set_cons_zero, List.set_cons_succ]
        refine wpAnyH_take (i := 8) (oi := { dst := some 37, op := Go.Op.makeInterface 9 (Go.Operand.const (Go.Value.string { data := #[32, 64] })), type := 20, pos := "text.go:54", after := #[], guard := none }) (v := ?_) rfl (by kernel_rfl) (by kernel_rfl) (by kernel_rfl) (fun _ _ _ h => h) (Or.inl ⟨by rfl, ?_⟩) (by assumption) ?_
        rotate_left
        (intro w hSw; (try dsimp only at hSw); go_simp; try (with_reducible rfl))
        simp only [Act.put, List.setIfInBounds_toArray, List.set_cons_zero, List.set_cons_succ]
        refine wpAnyH_take (i := 9) (oi := { dst := some 38, op := Go.Op.fieldAddr 33 (Go.Operand.tmp 3) 1, type := 0, pos := "text.go:54", after := #[], guard := none }) (v := ?_) rfl (by kernel_rfl) (by kernel_rfl) (by kernel_rfl) (fun _ _ _ h => h) (Or.inl ⟨by rfl, ?_⟩) (by assumption) ?_
        rotate_left
        (intro w hSw; (try dsimp only at hSw); go_simp; try (with_reducible rfl))
        simp only [Act.put, List.setIfInBounds_toArray, List.set_cons_zero, List.set_cons_succ]
        refine wpAnyH_take (i := 10) (oi := { dst := some 39, op := Go.Op.load 31 (Go.Operand.tmp 38), type := 31, pos := "text.go:54", after := #[{ on := 9, ground := Go.Ground.data }], guard := none }) (v := ?_) rfl (by kernel_rfl) (by kernel_rfl) (by kernel_rfl) (fun _ _ _ h => h) (Or.inl ⟨by rfl, ?_⟩) (by assumption) ?_
        rotate_left
        (intro w hSw; (try dsimp only at hSw); go_simp; try (with_reducible rfl))
        simp only [Act.put, List.setIfInBounds_toArray, List.set_cons_zero, List.set_cons_succ]
        refine wpAnyH_take (i := 11) (oi := { dst := some 40, op := Go.Op.move (Go.Operand.tmp 4), type := 3, pos := "text.go:54", after := #[], guard := none }) (v := ?_) rfl (by kernel_rfl) (by kernel_rfl) (by kernel_rfl) (fun _ _ _ h => h) (Or.inl ⟨by rfl, ?_⟩) (by assumption) ?_
        rotate_left
        (intro w hSw; (try dsimp only at hSw); go_simp; try (with_reducible rfl))
        simp only [Act.put, List.setIfInBounds_toArray, List.set_cons_zero, List.set_cons_succ]
        refine wpAnyH_take (i := 12) (oi := { dst := some 41, op := Go.Op.indexAddr 31 (Go.Operand.tmp 39) (Go.Operand.tmp 40), type := 0, pos := "text.go:54", after := #[{ on := 10, ground := Go.Ground.data }, { on := 11, ground := Go.Ground.data }], guard := none }) (v := ?_) rfl (by kernel_rfl) (by kernel_rfl) (by kernel_rfl) (fun _ _ _ h => h) (Or.inl ⟨by rfl, ?_⟩) (by assumption) ?_
        rotate_left
        (intro w hSw; (try dsimp only at hSw); go_simp; try (with_reducible rfl))
        simp only [Act.put, List.setIfInBounds_toArray, List.set_cons_zero, List.set_cons_succ]
        refine wpAnyH_take (i := 13) (oi := { dst := some 42, op := Go.Op.load 3 (Go.Operand.tmp 41), type := 3, pos := "text.go:54", after := #[{ on := 12, ground := Go.Ground.data }], guard := none }) (v := ?_) rfl (by kernel_rfl) (by kernel_rfl) (by kernel_rfl) (fun _ _ _ h => h) (Or.inl ⟨by rfl, ?_⟩) (by assumption) ?_
        rotate_left
        (intro w hSw; (try dsimp only at hSw); go_simp; try (with_reducible rfl))
        simp only [Act.put, List.setIfInBounds_toArray, List.set_cons_zero, List.set_cons_succ]
        refine wpAnyH_take (i := 14) (oi := { dst := some 43, op := Go.Op.makeInterface 3 (Go.Operand.tmp 42), type := 20, pos := "text.go:54", after := #[{ on := 13, ground := Go.Ground.data }], guard := none }) (v := ?_) rfl (by kernel_rfl) (by kernel_rfl) (by kernel_rfl) (fun _ _ _ h => h) (Or.inl ⟨by rfl, ?_⟩) (by assumption) ?_
        rotate_left
        (intro w hSw; (try dsimp only at hSw); go_simp; try (with_reducible rfl))
        simp only [Act.put, List.setIfInBounds_toArray, List.set_cons_zero, List.set_cons_succ]
        refine wpAnyH_ready (rs := [15]) (by kernel_rfl) (by simp) (AllReadyH.cons (o := { dst := some 44, op := Go.Op.buildSlice 164 4 #[(0, Go.Operand.tmp 30), (1, Go.Operand.tmp 36), (2, Go.Operand.tmp 37), (3, Go.Operand.tmp 43)], type := 164, pos := "text.go:54", after := #[{ on := 1, ground := Go.Ground.data }, { on := 7, ground := Go.Ground.data }, { on := 8, ground := Go.Ground.data }, { on := 14, ground := Go.Ground.data }], guard := none }) rfl (fun K hK => ?_) AllReadyH.nil)
        go_simp
        refine hK.out _ _ (KS.out _ (TX.out.alloc _)) (fun hH2 => ?_)
        clear hHeld hK K
        have hHeld := hH2
        clear hH2
        try simp only [Act.put, List.setIfInBounds_toArray, List.set_cons_zero, List.set_cons_succ]
        refine wpAnyH_ready (rs := [16]) (by kernel_rfl) (by simp) (AllReadyH.cons (o := { dst := some 45, op := Go.Op.call { callee := Go.Callee.value (Go.Operand.func 88), args := #[Go.Operand.tmp 29, Go.Operand.tmp 44], argTypes := #[144, 164] }, type := 0, pos := "text.go:54", after := #[{ on := 0, ground := Go.Ground.data }, { on := 15, ground := Go.Ground.data }], guard := none }) rfl (fun K hK => ?_) AllReadyH.nil)
        go_simp
        go_at_call 88
        refine (HQ.out _ rfl).mono ?_
        rintro r w3 ⟨rfl, a3, c3, q3⟩
        have Q3 := hid q3
        clear q3
        refine hK.out _ _ (KS.out _ Q3.out.t) (fun hH2 => ?_)
        clear hHeld hK K
        have hHeld := hH2
        clear hH2
        try simp only [Act.put, List.setIfInBounds_toArray, List.set_cons_zero, List.set_cons_succ]
        refine wpAnyH_done (by kernel_rfl) (NoPanic.normal ?_) _
        go_simp
        clear hHeld KS HQ TX
        go_wp2_with fail
        go_roundw
        case rel => exact ⟨k + 1, a3, c3, by go_num, by omega, by show PSt _ _ _ _ _ _ _ _ _; rw [HSN.out]; exact Q3.out⟩
        case measure => simp [intOf]; omega
      · have hk0' : ¬ (0 : Int) < (k : Int) := by omega
        obtain ⟨wc, hwc⟩ : ∃ wc, wr = wc := ⟨_, rfl⟩
        subst hwc
        have HSN : Hid (l ++ ptsT [.s [37], .i d, .s [32, 61, 32, 112, 104, 105]] ++ entsK F G (k + 1) = (l ++ ptsT [.s [37], .i d, .s [32, 61, 32, 112, 104, 105]] ++ entsK F G k) ++ ptsT [.s [32, 37], .i gk, .s [32, 64], .i fk]) := by show _ = _; rw [entsK_snoc, if_neg hk0, hgf, hgg]; simp [entT, show ptsT [.s [44]] = [44] from rfl]
        have HQ : Hid (∀ (W : World) (pk : Nat), pk = W.heap.size → Tch [] wr W → Calls Tryd.prog 88 #[.pointer (some ⟨b, 0, none⟩), .slice (some ⟨pk, 0, none⟩) 4 4] (W.alloc (.cells #[.iface 9 (.string ⟨#[32, 37]⟩), .iface 3 (.int .i64 gk), .iface 9 (.string ⟨#[32, 64]⟩), .iface 3 (.int .i64 fk)] 20)) fun r w' => r = .returned (.tuple #[]) ∧ ∃ a' c', PSt n b (.slice va l.length vc) w0 (.pointer (some ⟨b, 0, none⟩)) a' c' ((l ++ ptsT [.s [37], .i d, .s [32, 61, 32, 112, 104, 105]] ++ entsK F G k) ++ ptsT [.s [32, 37], .i gk, .s [32, 64], .i fk]) w') := fun W pk hpk t => by subst hpk; exact P.out.step [.s [32, 37], .i gk, .s [32, 64], .i fk] HE.out HN.out HD.out (by intro x hx; simp only [List.mem_cons, List.not_mem_nil, or_false] at hx; rcases hx with rfl | rfl | rfl | rfl <;> first | trivial | exact HGK.out | exact HFK.out) (by simp) (by simp) (by have := LEN.out; simp [ptsT, Pt.txt] at this ⊢; omega) W t
        have TX := hid (P.out.t.drew)
        go_upto_region 7 with fail
        refine wp_region_noPanic ?_
        refine wp_region_held_drew (S := fun w' => w'.cell? ⟨w.heap.size, 1, none⟩ = some (.slice (some ⟨fb, fo, none⟩) F.length fc) ∧ w'.cell? ⟨w.heap.size, 2, none⟩ = some (.slice (some ⟨gb, g0, none⟩) G.length gc) ∧ w'.cell? ⟨fb, fo + k, none⟩ = some (.int .i64 fk) ∧ w'.cell? ⟨gb, g0 + k, none⟩ = some (.int .i64 gk)) hmo (KS.out _ P.out.t.drew) (fun hHeld => ?_)
        replace HQ := hid (fun W pk hpk => HQ.out W pk hpk)
        generalize hx0 : wr.drew = x0 at hHeld TX ⊢
        have TD : Hid (Tch [] wr x0) := by subst hx0; exact (Tch.refl [] wr).drew
        clear hx0
        replace HQ := hid (fun pk hpk => HQ.out x0 pk hpk TD.out)
        refine wpAnyH_take (i := 0) (oi := { dst := some 29, op := Go.Op.move (Go.Operand.tmp 0), type := 144, pos := "text.go:54", after := #[], guard := none }) (v := ?_) rfl (by kernel_rfl) (by kernel_rfl) (by kernel_rfl) (fun _ _ _ h => h) (Or.inl ⟨by rfl, ?_⟩) (by assumption) ?_
        rotate_left
        (intro w hSw; (try dsimp only at hSw); go_simp; try (with_reducible rfl))
        simp only [Act.put, List.setIfInBounds_toArray, List.set_cons_zero, List.set_cons_succ]
        refine wpAnyH_take (i := 1) (oi := { dst := some 30, op := Go.Op.makeInterface 9 (Go.Operand.const (Go.Value.string { data := #[32, 37] })), type := 20, pos := "text.go:54", after := #[], guard := none }) (v := ?_) rfl (by kernel_rfl) (by kernel_rfl) (by kernel_rfl) (fun _ _ _ h => h) (Or.inl ⟨by rfl, ?_⟩) (by assumption) ?_
        rotate_left
        (intro w hSw; (try dsimp only at hSw); go_simp; try (with_reducible rfl))
        simp only [Act.put, List.setIfInBounds_toArray, List.set_cons_zero, List.set_cons_succ]
        refine wpAnyH_take (i := 2) (oi := { dst := some 31, op := Go.Op.fieldAddr 33 (Go.Operand.tmp 3) 2, type := 0, pos := "text.go:54", after := #[], guard := none }) (v := ?_) rfl (by kernel_rfl) (by kernel_rfl) (by kernel_rfl) (fun _ _ _ h => h) (Or.inl ⟨by rfl, ?_⟩) (by assumption) ?_
        rotate_left
        (intro w hSw; (try dsimp only at hSw); go_simp; try (with_reducible rfl))
        simp only [Act.put, List.setIfInBounds_toArray, List.set_cons_zero, List.set_cons_succ]
        refine wpAnyH_take (i := 3) (oi := { dst := some 32, op := Go.Op.load 31 (Go.Operand.tmp 31), type := 31, pos := "text.go:54", after := #[{ on := 2, ground := Go.Ground.data }], guard := none }) (v := ?_) rfl (by kernel_rfl) (by kernel_rfl) (by kernel_rfl) (fun _ _ _ h => h) (Or.inl ⟨by rfl, ?_⟩) (by assumption) ?_
        rotate_left
        (intro w hSw; (try dsimp only at hSw); go_simp; try (with_reducible rfl))
        simp only [Act.put, List.setIfInBounds_toArray, List.set_cons_zero, List.set_cons_succ]
        refine wpAnyH_take (i := 4) (oi := { dst := some 33, op := Go.Op.move (Go.Operand.tmp 4), type := 3, pos := "text.go:54", after := #[], guard := none }) (v := ?_) rfl (by kernel_rfl) (by kernel_rfl) (by kernel_rfl) (fun _ _ _ h => h) (Or.inl ⟨by rfl, ?_⟩) (by assumption) ?_
        rotate_left
        (intro w hSw; (try dsimp only at hSw); go_simp; try (with_reducible rfl))
        simp only [Act.put, List.setIfInBounds_toArray, List.set_cons_zero, List.set_cons_succ]
        refine wpAnyH_take (i := 5) (oi := { dst := some 34, op := Go.Op.indexAddr 31 (Go.Operand.tmp 32) (Go.Operand.tmp 33), type := 0, pos := "text.go:54", after := #[{ on := 3, ground := Go.Ground.data }, { on := 4, ground := Go.Ground.data }], guard := none }) (v := ?_) rfl (by kernel_rfl) (by kernel_rfl) (by kernel_rfl) (fun _ _ _ h => h) (Or.inl ⟨by rfl, ?_⟩) (by assumption) ?_
        rotate_left
        (intro w hSw; (try dsimp only at hSw); go_simp; try (with_reducible rfl))
        simp only [Act.put, List.setIfInBounds_toArray, List.set_cons_zero, List.set_cons_succ]
        refine wpAnyH_take (i := 6) (oi := { dst := some 35, op := Go.Op.load 3 (Go.Operand.tmp 34), type := 3, pos := "text.go:54", after := #[{ on := 5, ground := Go.Ground.data }], guard := none }) (v := ?_) rfl (by kernel_rfl) (by kernel_rfl) (by kernel_rfl) (fun _ _ _ h => h) (Or.inl ⟨by rfl, ?_⟩) (by assumption) ?_
        rotate_left
        (intro w hSw; (try dsimp only at hSw); go_simp; try (with_reducible rfl))
        simp only [Act.put, List.setIfInBounds_toArray, List.set_cons_zero, List.set_cons_succ]
        refine wpAnyH_take (i := 7) (oi := { dst := some 36, op := Go.Op.makeInterface 3 (Go.Operand.tmp 35), type := 20, pos := "text.go:54", after := #[{ on := 6, ground := Go.Ground.data }], guard := none }) (v := ?_) rfl (by kernel_rfl) (by kernel_rfl) (by kernel_rfl) (fun _ _ _ h => h) (Or.inl ⟨by rfl, ?_⟩) (by assumption) ?_
        rotate_left
        (intro w hSw; (try dsimp only at hSw); go_simp; try (with_reducible rfl))
        simp only [Act.put, List.setIfInBounds_toArray, List.set_cons_zero, List.set_cons_succ]
        refine wpAnyH_take (i := 8) (oi := { dst := some 37, op := Go.Op.makeInterface 9 (Go.Operand.const (Go.Value.string { data := #[32, 64] })), type := 20, pos := "text.go:54", after := #[], guard := none }) (v := ?_) rfl (by kernel_rfl) (by kernel_rfl) (by kernel_rfl) (fun _ _ _ h => h) (Or.inl ⟨by rfl, ?_⟩) (by assumption) ?_
        rotate_left
        (intro w hSw; (try dsimp only at hSw); go_simp; try (with_reducible rfl))
        simp only [Act.put, List.setIfInBounds_toArray, List.set_cons_zero, List.set_cons_succ]
        refine wpAnyH_take (i := 9) (oi := { dst := some 38, op := Go.Op.fieldAddr 33 (Go.Operand.tmp 3) 1, type := 0, pos := "text.go:54", after := #[], guard := none }) (v := ?_) rfl (by kernel_rfl) (by kernel_rfl) (by kernel_rfl) (fun _ _ _ h => h) (Or.inl ⟨by rfl, ?_⟩) (by assumption) ?_
        rotate_left
        (intro w hSw; (try dsimp only at hSw); go_simp; try (with_reducible rfl))
        simp only [Act.put, List.setIfInBounds_toArray, List.set_cons_zero, List.set_cons_succ]
        refine wpAnyH_take (i := 10) (oi := { dst := some 39, op := Go.Op.load 31 (Go.Operand.tmp 38), type := 31, pos := "text.go:54", after := #[{ on := 9, ground := Go.Ground.data }], guard := none }) (v := ?_) rfl (by kernel_rfl) (by kernel_rfl) (by kernel_rfl) (fun _ _ _ h => h) (Or.inl ⟨by rfl, ?_⟩) (by assumption) ?_
        rotate_left
        (intro w hSw; (try dsimp only at hSw); go_simp; try (with_reducible rfl))
        simp only [Act.put, List.setIfInBounds_toArray, List.set_cons_zero, List.set_cons_succ]
        refine wpAnyH_take (i := 11) (oi := { dst := some 40, op := Go.Op.move (Go.Operand.tmp 4), type := 3, pos := "text.go:54", after := #[], guard := none }) (v := ?_) rfl (by kernel_rfl) (by kernel_rfl) (by kernel_rfl) (fun _ _ _ h => h) (Or.inl ⟨by rfl, ?_⟩) (by assumption) ?_
        rotate_left
        (intro w hSw; (try dsimp only at hSw); go_simp; try (with_reducible rfl))
        simp only [Act.put, List.setIfInBounds_toArray, List.set_cons_zero, List.set_cons_succ]
        refine wpAnyH_take (i := 12) (oi := { dst := some 41, op := Go.Op.indexAddr 31 (Go.Operand.tmp 39) (Go.Operand.tmp 40), type := 0, pos := "text.go:54", after := #[{ on := 10, ground := Go.Ground.data }, { on := 11, ground := Go.Ground.data }], guard := none }) (v := ?_) rfl (by kernel_rfl) (by kernel_rfl) (by kernel_rfl) (fun _ _ _ h => h) (Or.inl ⟨by rfl, ?_⟩) (by assumption) ?_
        rotate_left
        (intro w hSw; (try dsimp only at hSw); go_simp; try (with_reducible rfl))
        simp only [Act.put, List.setIfInBounds_toArray, List.set_cons_zero, List.set_cons_succ]
        refine wpAnyH_take (i := 13) (oi := { dst := some 42, op := Go.Op.load 3 (Go.Operand.tmp 41), type := 3, pos := "text.go:54", after := #[{ on := 12, ground := Go.Ground.data }], guard := none }) (v := ?_) rfl (by kernel_rfl) (by kernel_rfl) (by kernel_rfl) (fun _ _ _ h => h) (Or.inl ⟨by rfl, ?_⟩) (by assumption) ?_
        rotate_left
        (intro w hSw; (try dsimp only at hSw); go_simp; try (with_reducible rfl))
        simp only [Act.put, List.setIfInBounds_toArray, List.set_cons_zero, List.set_cons_succ]
        refine wpAnyH_take (i := 14) (oi := { dst := some 43, op := Go.Op.makeInterface 3 (Go.Operand.tmp 42), type := 20, pos := "text.go:54", after := #[{ on := 13, ground := Go.Ground.data }], guard := none }) (v := ?_) rfl (by kernel_rfl) (by kernel_rfl) (by kernel_rfl) (fun _ _ _ h => h) (Or.inl ⟨by rfl, ?_⟩) (by assumption) ?_
        rotate_left
        (intro w hSw; (try dsimp only at hSw); go_simp; try (with_reducible rfl))
        simp only [Act.put, List.setIfInBounds_toArray, List.set_cons_zero, List.set_cons_succ]
        refine wpAnyH_ready (rs := [15]) (by kernel_rfl) (by simp) (AllReadyH.cons (o := { dst := some 44, op := Go.Op.buildSlice 164 4 #[(0, Go.Operand.tmp 30), (1, Go.Operand.tmp 36), (2, Go.Operand.tmp 37), (3, Go.Operand.tmp 43)], type := 164, pos := "text.go:54", after := #[{ on := 1, ground := Go.Ground.data }, { on := 7, ground := Go.Ground.data }, { on := 8, ground := Go.Ground.data }, { on := 14, ground := Go.Ground.data }], guard := none }) rfl (fun K hK => ?_) AllReadyH.nil)
        go_simp
        refine hK.out _ _ (KS.out _ (TX.out.alloc _)) (fun hH2 => ?_)
        clear hHeld hK K
        have hHeld := hH2
        clear hH2
        try simp only [Act.put, List.setIfInBounds_toArray, List.set_cons_zero, List.set_cons_succ]
        refine wpAnyH_ready (rs := [16]) (by kernel_rfl) (by simp) (AllReadyH.cons (o := { dst := some 45, op := Go.Op.call { callee := Go.Callee.value (Go.Operand.func 88), args := #[Go.Operand.tmp 29, Go.Operand.tmp 44], argTypes := #[144, 164] }, type := 0, pos := "text.go:54", after := #[{ on := 0, ground := Go.Ground.data }, { on := 15, ground := Go.Ground.data }], guard := none }) rfl (fun K hK => ?_) AllReadyH.nil)
        go_simp
        go_at_call 88
        refine (HQ.out _ rfl).mono ?_
        rintro r w3 ⟨rfl, a3, c3, q3⟩
        have Q3 := hid q3
        clear q3
        refine hK.out _ _ (KS.out _ Q3.out.t) (fun hH2 => ?_)
        clear hHeld hK K
        have hHeld := hH2
        clear hH2
        try simp only [Act.put, List.setIfInBounds_toArray, List.set_cons_zero, List.set_cons_succ]
        refine wpAnyH_done (by kernel_rfl) (NoPanic.normal ?_) _
        go_simp
        clear hHeld KS HQ TX
        go_wp2_with fail
        go_roundw
        case rel => exact ⟨k + 1, a3, c3, by go_num, by omega, by show PSt _ _ _ _ _ _ _ _ _; rw [HSN.out]; exact Q3.out⟩
        case measure => simp [intOf]; omega
    · obtain rfl : k = m := by omega
      go_wp2_with fail
      go_end0
      refine ⟨rfl, ?_⟩
      have q := P.out.fin
      rw [HM.out, List.append_assoc] at q
      exact q.pre T0.out
end Go.Proofs.YtbdjpmmbnlmkhaaDoor


/- What lies ahead of a text stays; steps of show's own. -/
set_option linter.unusedSimpArgs false
set_option linter.unusedVariables false
namespace Go.Proofs.YtbdjpmmbnlmkhaaDoor
open Go.RowKit Go.Sort

/-- All that lies ahead of n is as it was. -/
def Lw (n : Nat) (w W : World) : Prop := ∃ S, Tch S w W ∧ ∀ x ∈ S, n ≤ x
theorem Lw.trans {n : Nat} {a b c : World} (h : Lw n a b) (k : Lw n b c) : Lw n a c := by
  obtain ⟨S, h1, h2⟩ := h
  obtain ⟨S', k1, k2⟩ := k
  exact ⟨S ++ S', (h1.mono (by simp +contextual)).trans (k1.mono (by simp +contextual)), fun x hx => (List.mem_append.1 hx).elim (h2 x) (k2 x)⟩
theorem Lw.of {n : Nat} {w W : World} (t : Tch [] w W) : Lw n w W := ⟨[], t, by simp⟩
theorem Lw.size {n : Nat} {w W : World} (h : Lw n w W) : w.heap.size ≤ W.heap.size := by obtain ⟨S, t, _⟩ := h; exact t.size
theorem Lw.sl {n : Nat} {w W : World} (h : Lw n w W) {e : TypeId} {sz m : Nat} {v : Value} {cs : List Value} (s : Sl w e sz v m cs) (hn : ∀ k ∈ blks v, k < n) : Sl W e sz v m cs := by
  obtain ⟨S, t, hS⟩ := h
  exact s.kept t (fun k hk hm => by have := hn k hk; have := hS k hm; omega)
theorem Lw.cell {n : Nat} {w W : World} (h : Lw n w W) {p : Addr} {u : Value} (hc : w.cell? p = some u) (hn : p.block < n) : W.cell? p = some u := by
  obtain ⟨S, t, hS⟩ := h
  have hl := cell_lt hc
  unfold World.cell? at hc ⊢
  rw [t.block _ hl (fun hm => by have := hS _ hm; omega)]
  exact hc
theorem PSt.lw {n b : Nat} {v : Value} {w : World} {p : Value} {a : Option Addr} {c : Nat} {l : List UInt8} {W : World} (h : PSt n b v w p a c l W) (hv : ∀ k ∈ blks v, n ≤ k) : Lw n w W :=
  ⟨b :: blks v, h.t, fun x hx => by
    rcases List.mem_cons.1 hx with rfl | hx
    · exact h.x.nb
    · exact hv x hx⟩
/-- The variables that are read while one prints: they lie ahead of n. -/
structure Gl (n : Nat) (w : World) : Prop where
  e : Pw w
  pn : PwN n
  k : Kinds w
  h : WordsH w
  kn : 0 < n
  hn : 1 < n
theorem Gl.lw {n : Nat} {w W : World} (g : Gl n w) (h : Lw n w W) : Gl n W := by
  refine ⟨?_, g.pn, fun k j hk hj => h.cell (g.k k j hk hj) g.kn, ?_, g.kn, g.hn⟩
  · obtain ⟨S, t, hS⟩ := h
    exact g.e.tch t (fun x hx hm => by have := g.pn x hx; have := hS x hm; omega)
  · obtain ⟨S, t, hS⟩ := h
    exact g.h.tch t (fun hm => by have := g.hn; have := hS _ hm; omega)
theorem Gl.start {w : World} (hE : Pw w) (hN : PwN w.heap.size) (hK : Kinds w) (hW : WordsH w) : Gl w.heap.size w := ⟨hE, hN, hK, hW, hK.pos, hW.pos⟩
theorem PSt.step2 {n b : Nat} {v : Value} {w : World} {p : Value} {a : Option Addr} {c : Nat} {l : List UInt8} {W : World} (ps : List Pt) (h : PSt n b v w p a c l W) (g : Gl n W) (hok : ∀ x ∈ ps, x.ok) (h0 : ps ≠ []) (hln : ps.length ≤ 100) (hlen : l.length + (ptsT ps).length ≤ 1000000000) (W2 : World) (t : Tch [] W W2) :
    Calls Tryd.prog 88 #[.pointer (some ⟨b, 0, none⟩), .slice (some ⟨W2.heap.size, 0, none⟩) ps.length ps.length] (W2.alloc (.cells (ps.map Pt.val).toArray 20)) fun e w' => e = .returned (.tuple #[]) ∧ ∃ a' c', PSt n b v w (.pointer (some ⟨b, 0, none⟩)) a' c' (l ++ ptsT ps) w' :=
  (put_new ps W W2 h.x t g.e g.pn hok h0 hln hlen).mono fun e w' ⟨he, q⟩ => ⟨he, h.put q⟩
theorem PSt.insS {n b : Nat} {v : Value} {w : World} {p : Value} {a : Option Addr} {c : Nat} {l : List UInt8} {W : World} (x : InsM) (h : PSt n b v w p a c l W) (g : Gl n W) (hx : InsS x) (hlen : l.length ≤ 900000000) :
    Calls Tryd.prog 57 #[.pointer (some ⟨b, 0, none⟩), .agg (xC x)] W fun e w' => e = .returned (.tuple #[]) ∧ ∃ a' c', PSt n b v w (.pointer (some ⟨b, 0, none⟩)) a' c' (l ++ ptsT (ptI x)) w' :=
  (tinstr_any x W h.x g.e g.pn g.k g.h g.hn hx hlen).mono fun e w' ⟨he, q⟩ => ⟨he, h.put q⟩
theorem PSt.lastS {n b : Nat} {v : Value} {w : World} {p : Value} {a : Option Addr} {c : Nat} {l : List UInt8} {W : World} (e r y m : Int) (h : PSt n b v w p a c l W) (g : Gl n W) (he : 0 ≤ e ∧ e < 4) (ha : W64s r) (hy : W64s y) (hm : W64s m) (hlen : l.length ≤ 900000000) :
    Calls Tryd.prog 58 #[.pointer (some ⟨b, 0, none⟩), .agg #[.int .u8 e, .int .i64 r, .int .i64 y, .int .i64 m]] W fun z w' => z = .returned (.tuple #[]) ∧ ∃ a' c', PSt n b v w (.pointer (some ⟨b, 0, none⟩)) a' c' (l ++ ptsT (ptL e r y m)) w' :=
  (tlast_tx e r y m W h.x g.e g.pn he ha hy hm hlen).mono fun e w' ⟨he, q⟩ => ⟨he, h.put q⟩
/-- A phi that may be printed: its lists lie ahead of n. -/
structure PhiS (n : Nat) (w : World) (x : PhiM) : Prop where
  d : W64s x.d
  f : Sl w 3 1 x.fv x.frm.length (ivals x.frm)
  g : Sl w 3 1 x.av x.arg.length (ivals x.arg)
  fn : ∀ k ∈ blks x.fv, k < n
  gn : ∀ k ∈ blks x.av, k < n
  f64 : ∀ y ∈ x.frm, W64s y
  g64 : ∀ y ∈ x.arg, W64s y
  len : x.frm.length ≤ 100000
theorem PhiS.lw {n : Nat} {w W : World} {x : PhiM} (g : PhiS n w x) (h : Lw n w W) : PhiS n W x := ⟨g.d, h.sl g.f g.fn, h.sl g.g g.gn, g.fn, g.gn, g.f64, g.g64, g.len⟩
def fT (x : PhiM) : List UInt8 := phT x.d x.frm x.arg
theorem PSt.phiS {n b : Nat} {v : Value} {w : World} {p : Value} {a : Option Addr} {c : Nat} {l : List UInt8} {W : World} (x : PhiM) (h : PSt n b v w p a c l W) (g : Gl n W) (hx : PhiS n W x) (hlen : l.length ≤ 800000000) :
    Calls Tryd.prog 55 #[.pointer (some ⟨b, 0, none⟩), .agg #[.int .i64 x.d, x.fv, x.av]] W fun e w' => e = .returned (.tuple #[]) ∧ ∃ a' c', PSt n b v w (.pointer (some ⟨b, 0, none⟩)) a' c' (l ++ fT x) w' :=
  (tphi_tx x.d x.fv x.av x.frm x.arg W h.x g.e g.pn hx.d hx.f hx.g hx.fn hx.gn hx.f64 hx.g64 (by have := hx.len; omega)).mono fun e w' ⟨he, q⟩ => ⟨he, h.put q⟩
/-- A block that may be printed. -/
structure BlkS (n : Nat) (w : World) (x : BlkM) : Prop where
  l : W64s x.lab
  p : Sl w 33 3 x.pv x.phis.length (phiC x.phis)
  pn : ∀ k ∈ blks x.pv, k < n
  q : ∀ y ∈ x.phis, PhiS n w y
  i : Sl w 39 7 x.iv x.ins.length (insC x.ins)
  inn : ∀ k ∈ blks x.iv, k < n
  s : ∀ y ∈ x.ins, InsS y
  e : 0 ≤ x.e ∧ x.e < 4
  a : W64s x.a
  y : W64s x.y
  n : W64s x.n
theorem BlkS.lw {n : Nat} {w W : World} {x : BlkM} (g : BlkS n w x) (h : Lw n w W) : BlkS n W x := ⟨g.l, h.sl g.p g.pn, g.pn, fun y hy => (g.q y hy).lw h, h.sl g.i g.inn, g.inn, g.s, g.e, g.a, g.y, g.n⟩
/-- What is put of a block, of a program. -/
def prFs (l : List PhiM) : List UInt8 := l.flatMap fun x => ([32, 32] ++ fT x) ++ [10]
def prIs (l : List InsM) : List UInt8 := l.flatMap fun x => ([32, 32] ++ ptsT (ptI x)) ++ [10]
def prB (x : BlkM) : List UInt8 := ptsT [.s [64], .i x.lab, .s [58, 10]] ++ prFs x.phis ++ prIs x.ins ++ [32, 32] ++ ptsT (ptL x.e x.a x.y x.n) ++ [10]
def prP (l : List BlkM) : List UInt8 := l.flatMap prB
theorem prFs_snoc {l : List PhiM} {k : Nat} {x : PhiM} (h : l[k]? = some x) : prFs (l.take (k + 1)) = prFs (l.take k) ++ (([32, 32] ++ fT x) ++ [10]) := by
  obtain ⟨hi, rfl⟩ := List.getElem?_eq_some_iff.1 h
  rw [List.take_succ_eq_append_getElem hi, prFs, List.flatMap_append]
  simp [prFs]
theorem prIs_snoc {l : List InsM} {k : Nat} {x : InsM} (h : l[k]? = some x) : prIs (l.take (k + 1)) = prIs (l.take k) ++ (([32, 32] ++ ptsT (ptI x)) ++ [10]) := by
  obtain ⟨hi, rfl⟩ := List.getElem?_eq_some_iff.1 h
  rw [List.take_succ_eq_append_getElem hi, prIs, List.flatMap_append]
  simp [prIs]
theorem prP_snoc {l : List BlkM} {k : Nat} {x : BlkM} (h : l[k]? = some x) : prP (l.take (k + 1)) = prP (l.take k) ++ prB x := by
  obtain ⟨hi, rfl⟩ := List.getElem?_eq_some_iff.1 h
  rw [List.take_succ_eq_append_getElem hi, prP, List.flatMap_append]
  simp [prP]
theorem fm_take {α β : Type} (f : α → List β) (l : List α) (k : Nat) : ((l.take k).flatMap f).length ≤ (l.flatMap f).length := by
  conv => rhs; rw [← List.take_append_drop k l, List.flatMap_append, List.length_append]
  omega
/-- A round of a loop that prints: what was put behind. -/
theorem PSt.join {n b : Nat} {v : Value} {w : World} {p : Value} {a : Option Addr} {c : Nat} {l m : List UInt8} {W W2 W3 : World} {a' : Option Addr} {c' : Nat} (h : PSt n b v w p a c l W) (t : Tch [] W W2) (q : PSt n b (.slice a l.length c) W2 (.pointer (some ⟨b, 0, none⟩)) a' c' (l ++ m) W3) : ∃ a' c', PSt n b v w (.pointer (some ⟨b, 0, none⟩)) a' c' (l ++ m) W3 :=
  (h.gr t).put q.fin
theorem PSt.off {n b : Nat} {v : Value} {w : World} {p : Value} {a : Option Addr} {c : Nat} {l : List UInt8} {W : World} (h : PSt n b v w p a c l W) : ¬ W.heap.size ∈ b :: blks (.slice a l.length c) := fun hm => by
  have := h.x.lt
  rcases List.mem_cons.1 hm with e | e
  · omega
  · have := this.2 _ e; omega
end Go.Proofs.YtbdjpmmbnlmkhaaDoor


/- show's block. -/
set_option linter.unusedSimpArgs false
set_option linter.unusedVariables false
namespace Go.Proofs.YtbdjpmmbnlmkhaaDoor
open Go.RowKit Go.Sort

set_option maxRecDepth 100000 in
set_option maxHeartbeats 8000000 in
/-- **block.** -/
theorem tblock_tx {n b : Nat} {p v : Value} {l : List UInt8} (B : BlkM) (w : World) (h : Tx n b p v l w) (hG : Gl n w) (hB : BlkS n w B) (hlen : l.length + (prB B).length ≤ 700000000) :
    Calls Tryd.prog 59 #[.pointer (some ⟨b, 0, none⟩), .agg #[.int .i64 B.lab, B.pv, B.iv, .int .u8 B.e, .int .i64 B.a, .int .i64 B.y, .int .i64 B.n]] w fun r w' => r = .returned (.tuple #[]) ∧ Put n b v (l ++ prB B) w w' := by
  have k1 : Tryd.prog.concrete 9 = true := by kernel_rfl
  have k2 : Tryd.prog.concrete 3 = true := by kernel_rfl
  obtain ⟨va, vc, hv⟩ := h.s.shape
  subst hv
  obtain ⟨lab, pv, phis, iv, ins, e, ra, y, m⟩ := B
  have hpl := hB.p.le
  have hil := hB.i.le
  unfold maxLen at hpl hil
  dsimp only at hpl hil
  obtain ⟨pa, pc, hv⟩ := hB.p.shape
  dsimp only at hv
  subst hv
  obtain ⟨ia, ic, hv⟩ := hB.i.shape
  dsimp only at hv
  subst hv
  have hHD : ∀ k ∈ blks (.slice va l.length vc), n ≤ k := fun k hk => (h.d k hk).1
  have HD := hid hHD
  have t0 := (Tch.refl [] w).alloc (.cells #[.int .i64 lab, .slice pa phis.length pc, .slice ia ins.length ic, .int .u8 e, .int .i64 ra, .int .i64 y, .int .i64 m] 50)
  have T0 := hid t0
  have HB := hid (hB.lw (Lw.of t0))
  have HG := hid (hG.lw (Lw.of t0))
  have hBX := heap_alloc_new w (.cells #[.int .i64 lab, .slice pa phis.length pc, .slice ia ins.length ic, .int .u8 e, .int .i64 ra, .int .i64 y, .int .i64 m] 50)
  have P := hid (PSt.start h t0)
  have HLT := hid h.lt
  generalize hw0 : w.alloc (.cells #[.int .i64 lab, .slice pa phis.length pc, .slice ia ins.length ic, .int .u8 e, .int .i64 ra, .int .i64 y, .int .i64 m] 50) = w0 at *
  have HBX := hid hBX
  have NBX : Hid (¬ w.heap.size ∈ b :: blks (.slice va l.length vc)) := fun hmm => by
    rcases List.mem_cons.1 hmm with e | e
    · have := HLT.out.1; omega
    · have := HLT.out.2 _ e; omega
  have HPO := hid (fun W (t : Tch (b :: blks (.slice va l.length vc)) w0 W) => t.obj HBX.out NBX.out)
  have HLN : Hid (l.length + (prB ⟨lab, .slice pa phis.length pc, phis, .slice ia ins.length ic, ins, e, ra, y, m⟩).length ≤ 700000000) := hlen
  have LEN : Hid ((l ++ ptsT [.s [64], .i lab, .s [58, 10]]).length + (prFs phis).length ≤ 700000000) := by have := HLN.out; show _ ≤ _; simp only [prB, List.length_append] at this ⊢; omega
  have LEN2 : Hid (((l ++ ptsT [.s [64], .i lab, .s [58, 10]]) ++ prFs phis).length + (prIs ins).length + 20 ≤ 700000100) := by have := HLN.out; show _ ≤ _; simp only [prB, List.length_append] at this ⊢; omega
  have LEN2' := LEN2
  have LEN2 : Hid (((l ++ ptsT [.s [64], .i lab, .s [58, 10]]) ++ prFs phis).length + (prIs ins).length ≤ 700000000) := by have := HLN.out; show _ ≤ _; simp only [prB, List.length_append] at this ⊢; omega
  have HQ0 : Hid (∀ (pk : Nat), pk = w0.heap.size → Calls Tryd.prog 88 #[.pointer (some ⟨b, 0, none⟩), .slice (some ⟨pk, 0, none⟩) 3 3] (w0.alloc (.cells #[.iface 9 (.string ⟨#[64]⟩), .iface 3 (.int .i64 lab), .iface 9 (.string ⟨#[58, 10]⟩)] 20)) fun r w' => r = .returned (.tuple #[]) ∧ ∃ a' c', PSt n b (.slice va l.length vc) w0 (.pointer (some ⟨b, 0, none⟩)) a' c' (l ++ ptsT [.s [64], .i lab, .s [58, 10]]) w') := fun pk hpk => by subst hpk; exact P.out.step2 [.s [64], .i lab, .s [58, 10]] HG.out (by intro x hx; simp only [List.mem_cons, List.not_mem_nil, or_false] at hx; rcases hx with rfl | rfl | rfl <;> first | trivial | exact HB.out.l) (by simp) (by simp) (by have := LEN.out; simp only [List.length_append] at this; omega) w0 (Tch.refl [] w0)
  clear h hG hB hHD t0 hBX hlen
  go_enter Tryd.func59, Tryd.ntmps59
  go_upto_region 1 with fail
  try simp only [hw0]
  have q0 := cell_of_row _ _ 0 _ _ _ HBX.out
  simp only [List.getElem?_toArray, List.getElem?_cons_zero, List.getElem?_cons_succ] at q0
  have lq : w.heap.size < w0.heap.size := lt_of_obj HBX.out
  go_upto_region 2 with (go_at_call 88; refine (HQ0.out _ rfl).mono ?_; rintro r w1 ⟨rfl, a1, c1, p1⟩; have P1 := hid p1; clear p1 HQ0)
  clear q0 lq P
  have z1 := cell_of_row _ _ 1 _ _ _ (HPO.out _ P1.out.t)
  simp only [List.getElem?_toArray, List.getElem?_cons_zero, List.getElem?_cons_succ] at z1
  have lz := lt_of_obj (HPO.out _ P1.out.t)
  go_upto_region 3 with fail
  clear z1 lz
  generalize hBA : (l ++ ptsT [.s [64], .i lab, .s [58, 10]]) = BASE at *
  have HBA := hid hBA
  clear hBA
  go_loopw [5, 19] (fun _ vi wr => ∃ (k : Nat) (a : Option Addr) (c : Nat), vi = .int .i64 k ∧ k ≤ phis.length ∧ Hid (PSt n b (.slice va l.length vc) w0 (.pointer (some ⟨b, 0, none⟩)) a c (BASE ++ prFs (phis.take k)) wr)) (fun _ vi _ => phis.length - (intOf vi).toNat)
  case atStart => exact ⟨0, a1, c1, rfl, Nat.zero_le _, by show PSt _ _ _ _ _ _ _ _ _; simpa [prFs] using P1.out⟩
  case round =>
    clear P1
    obtain ⟨k, a, c, rfl, hk, P⟩ := hrel
    by_cases hlt : k < phis.length
    · obtain ⟨x, hx⟩ : ∃ x, phis[k]? = some x := ⟨phis[k], by simp [hlt]⟩
      have mx := List.mem_of_getElem? hx
      have hps := HB.out.q x mx
      obtain ⟨xd, xf, xF, xv, xG⟩ := x
      obtain ⟨fa, fc, hv⟩ := hps.f.shape
      dsimp only at hv
      subst hv
      obtain ⟨ga, gc, hv⟩ := hps.g.shape
      dsimp only at hv
      subst hv
      have lfx := hps.f.le
      have lgx := hps.g.le
      unfold maxLen at lfx lgx
      dsimp only at lfx lgx
      clear hps
      have HSN := hid (prFs_snoc hx)
      have lwr := hid (P.out.lw HD.out)
      have sx := lwr.out.sl HB.out.p HB.out.pn
      obtain ⟨b3, o3, d3, hv⟩ := sx.ptr (Nat.zero_lt_of_lt hlt)
      cases hv
      obtain ⟨y0, y1, y2⟩ := phi_at sx k hx
      have lt3 : b3 < wr.heap.size := cell_lt y0
      clear sx hx
      dsimp only at y0 y1 y2
      have TA := hid ((Tch.refl [] wr).alloc (.cells #[.int .i64 xd, .slice fa xF.length fc, .slice ga xG.length gc] 33))
      have HBXN := hid (heap_alloc_new wr (.cells #[.int .i64 xd, .slice fa xF.length fc, .slice ga xG.length gc] 33))
      have Q0 := hid (PSt.start P.out.x TA.out)
      have LWA := hid (lwr.out.trans (Lw.of TA.out))
      have LL : Hid ((BASE ++ prFs (phis.take k)).length + (([32, 32] ++ fT ⟨xd, .slice fa xF.length fc, xF, .slice ga xG.length gc, xG⟩) ++ [10]).length ≤ 700000000) := by
        show _ ≤ _
        have h1 := congrArg List.length HSN.out
        have h2 := fm_take (fun x => ([32, 32] ++ fT x) ++ [10]) phis (k + 1)
        have h3 := LEN.out
        rw [List.length_append] at h1 ⊢
        have h4 : (prFs (phis.take (k + 1))).length ≤ (prFs phis).length := h2
        omega
      generalize hwb : wr.alloc (.cells #[.int .i64 xd, .slice fa xF.length fc, .slice ga xG.length gc] 33) = wb at TA HBXN Q0 LWA
      have NX := hid P.out.off
      generalize hLL : BASE ++ prFs (phis.take k) = LP at *
      have HLP := hid hLL
      clear hLL
      have HGB := hid (HG.out.lw LWA.out)
      have DV : Hid (∀ j ∈ blks (.slice a LP.length c), n ≤ j) := fun j hj => (P.out.x.d j hj).1
      have HQ1 : Hid (∀ (pk : Nat), pk = wb.heap.size → Calls Tryd.prog 88 #[.pointer (some ⟨b, 0, none⟩), .slice (some ⟨pk, 0, none⟩) 1 1] (wb.alloc (.cells #[.iface 9 (.string ⟨#[32, 32]⟩)] 20)) fun r w' => r = .returned (.tuple #[]) ∧ ∃ a' c', PSt n b (.slice a LP.length c) wb (.pointer (some ⟨b, 0, none⟩)) a' c' (LP ++ ptsT [.s [32, 32]]) w') := fun pk hpk => by subst hpk; exact Q0.out.step2 [.s [32, 32]] HGB.out (by intro x hx; simp only [List.mem_cons, List.not_mem_nil, or_false] at hx; subst hx; trivial) (by simp) (by simp) (by have := LL.out; simp [ptsT, Pt.txt] at this ⊢; omega) wb (Tch.refl [] wb)
      go_upto_region 6 with ((try simp only [hwb]); go_at_call 88; refine (HQ1.out _ rfl).mono ?_; rintro r w1 ⟨rfl, a1, c1, q1⟩; have Q1 := hid q1; clear q1 HQ1)
      clear y0 y1 y2 lt3
      have LW1 := hid (LWA.out.trans (Q1.out.lw DV.out))
      have HG1 := hid (HG.out.lw LW1.out)
      have zz := Q1.out.t.obj HBXN.out NX.out
      have z0 := cell_of_row _ _ 0 _ _ _ zz
      have z1 := cell_of_row _ _ 1 _ _ _ zz
      have z2 := cell_of_row _ _ 2 _ _ _ zz
      simp only [List.getElem?_toArray, List.getElem?_cons_zero, List.getElem?_cons_succ] at z0 z1 z2
      have lz := lt_of_obj zz
      clear zz
      have HQ2 := hid (PSt.phiS ⟨xd, .slice fa xF.length fc, xF, .slice ga xG.length gc, xG⟩ Q1.out HG1.out ((HB.out.q _ mx).lw LW1.out) (by have := LL.out; simp [ptsT, Pt.txt] at this ⊢; omega))
      go_upto_region 7 with (go_at_call 55; refine HQ2.out.mono ?_; rintro r w2 ⟨rfl, a2, c2, q2⟩; have Q2 := hid q2; clear q2 HQ2)
      clear z0 z1 z2 lz
      have HG2 := hid (HG.out.lw (LWA.out.trans (Q2.out.lw DV.out)))
      have HQ3 : Hid (∀ (pk : Nat), pk = w2.heap.size → Calls Tryd.prog 88 #[.pointer (some ⟨b, 0, none⟩), .slice (some ⟨pk, 0, none⟩) 1 1] (w2.alloc (.cells #[.iface 9 (.string ⟨#[10]⟩)] 20)) fun r w' => r = .returned (.tuple #[]) ∧ ∃ a' c', PSt n b (.slice a LP.length c) wb (.pointer (some ⟨b, 0, none⟩)) a' c' ((LP ++ ptsT [.s [32, 32]] ++ fT ⟨xd, .slice fa xF.length fc, xF, .slice ga xG.length gc, xG⟩) ++ ptsT [.s [10]]) w') := fun pk hpk => by subst hpk; exact Q2.out.step2 [.s [10]] HG2.out (by intro x hx; simp only [List.mem_cons, List.not_mem_nil, or_false] at hx; subst hx; trivial) (by simp) (by simp) (by have := LL.out; simp [ptsT, Pt.txt] at this ⊢; omega) w2 (Tch.refl [] w2)
      go_upto_region 8 with (go_at_call 88; refine (HQ3.out _ rfl).mono ?_; rintro r w3 ⟨rfl, a3, c3, q3⟩; have Q3 := hid q3; clear q3 HQ3)
      have HJ : Hid (∃ a' c', PSt n b (.slice va l.length vc) w0 (.pointer (some ⟨b, 0, none⟩)) a' c' (BASE ++ prFs (phis.take (k + 1))) w3) := by
        have e : BASE ++ prFs (phis.take (k + 1)) = LP ++ (([32, 32] ++ fT ⟨xd, .slice fa xF.length fc, xF, .slice ga xG.length gc, xG⟩) ++ [10]) := by rw [HSN.out, ← HLP.out]; simp
        have e2 : LP ++ ptsT [.s [32, 32]] ++ fT ⟨xd, .slice fa xF.length fc, xF, .slice ga xG.length gc, xG⟩ ++ ptsT [.s [10]] = LP ++ (([32, 32] ++ fT ⟨xd, .slice fa xF.length fc, xF, .slice ga xG.length gc, xG⟩) ++ [10]) := by simp [ptsT, Pt.txt]
        have q := Q3.out
        rw [e2] at q
        show ∃ a' c', _
        rw [e]
        exact P.out.join TA.out q
      clear Q3 Q2 Q1 Q0
      obtain ⟨a4, c4, HJ⟩ := HJ.out
      have HJ := hid HJ
      go_wp2_with fail
      go_roundw
      case rel => exact ⟨k + 1, a4, c4, by go_num, by omega, HJ.out⟩
      case measure => simp [intOf]; omega
    · obtain rfl : k = phis.length := by omega
      rw [List.take_length] at P
      have z2 := cell_of_row _ _ 2 _ _ _ (HPO.out _ P.out.t)
      simp only [List.getElem?_toArray, List.getElem?_cons_zero, List.getElem?_cons_succ] at z2
      have lz := lt_of_obj (HPO.out _ P.out.t)
      go_upto_region 10 with fail
      clear z2 lz
      have P1 := hid P.out
      clear P
      generalize hB2 : BASE ++ prFs phis = BASE2 at *
      have HB2 := hid hB2
      clear hB2
      go_loopw [7, 38] (fun _ vi wr => ∃ (k : Nat) (a : Option Addr) (c : Nat), vi = .int .i64 k ∧ k ≤ ins.length ∧ Hid (PSt n b (.slice va l.length vc) w0 (.pointer (some ⟨b, 0, none⟩)) a c (BASE2 ++ prIs (ins.take k)) wr)) (fun _ vi _ => ins.length - (intOf vi).toNat)
      case atStart => exact ⟨0, a, c, rfl, Nat.zero_le _, by show PSt _ _ _ _ _ _ _ _ _; simpa [prIs] using P1.out⟩
      case round =>
        clear P1
        obtain ⟨k, a, c, rfl, hk, P⟩ := hrel
        by_cases hlt : k < ins.length
        · obtain ⟨x, hx⟩ : ∃ x, ins[k]? = some x := ⟨ins[k], by simp [hlt]⟩
          have mx := List.mem_of_getElem? hx
          have HSN := hid (prIs_snoc hx)
          have lwr := hid (P.out.lw HD.out)
          have sx := lwr.out.sl HB.out.i HB.out.inn
          obtain ⟨b3, o3, d3, hv⟩ := sx.ptr (Nat.zero_lt_of_lt hlt)
          cases hv
          obtain ⟨y0, y1, y2, y3, y4, y5, y6⟩ := ins_at sx k hx
          have lt3 : b3 < wr.heap.size := cell_lt y0
          clear sx hx
          have TA := hid ((Tch.refl [] wr).alloc (.cells #[.int .u8 x.k, .int .u8 x.o, .int .i64 x.d, .int .i64 x.a, .int .i64 x.b, .int .i64 x.n, .int .i64 x.s] 39))
          have HBXN := hid (heap_alloc_new wr (.cells #[.int .u8 x.k, .int .u8 x.o, .int .i64 x.d, .int .i64 x.a, .int .i64 x.b, .int .i64 x.n, .int .i64 x.s] 39))
          have Q0 := hid (PSt.start P.out.x TA.out)
          have LWA := hid (lwr.out.trans (Lw.of TA.out))
          have LL : Hid ((BASE2 ++ prIs (ins.take k)).length + (([32, 32] ++ ptsT (ptI x)) ++ [10]).length ≤ 700000000) := by
            show _ ≤ _
            have h1 := congrArg List.length HSN.out
            have h2 := fm_take (fun x => ([32, 32] ++ ptsT (ptI x)) ++ [10]) ins (k + 1)
            have h3 := LEN2.out
            rw [List.length_append] at h1 ⊢
            have h4 : (prIs (ins.take (k + 1))).length ≤ (prIs ins).length := h2
            omega
          generalize hwb : wr.alloc (.cells #[.int .u8 x.k, .int .u8 x.o, .int .i64 x.d, .int .i64 x.a, .int .i64 x.b, .int .i64 x.n, .int .i64 x.s] 39) = wb at TA HBXN Q0 LWA
          have NX := hid P.out.off
          generalize hLL : BASE2 ++ prIs (ins.take k) = LP at *
          have HLP := hid hLL
          clear hLL
          have HGB := hid (HG.out.lw LWA.out)
          have DV : Hid (∀ j ∈ blks (.slice a LP.length c), n ≤ j) := fun j hj => (P.out.x.d j hj).1
          have HQ1 : Hid (∀ (pk : Nat), pk = wb.heap.size → Calls Tryd.prog 88 #[.pointer (some ⟨b, 0, none⟩), .slice (some ⟨pk, 0, none⟩) 1 1] (wb.alloc (.cells #[.iface 9 (.string ⟨#[32, 32]⟩)] 20)) fun r w' => r = .returned (.tuple #[]) ∧ ∃ a' c', PSt n b (.slice a LP.length c) wb (.pointer (some ⟨b, 0, none⟩)) a' c' (LP ++ ptsT [.s [32, 32]]) w') := fun pk hpk => by subst hpk; exact Q0.out.step2 [.s [32, 32]] HGB.out (by intro x hx; simp only [List.mem_cons, List.not_mem_nil, or_false] at hx; subst hx; trivial) (by simp) (by simp) (by have := LL.out; simp [ptsT, Pt.txt] at this ⊢; omega) wb (Tch.refl [] wb)
          go_upto_region 13 with ((try simp only [hwb]); go_at_call 88; refine (HQ1.out _ rfl).mono ?_; rintro r w1 ⟨rfl, a1, c1, q1⟩; have Q1 := hid q1; clear q1 HQ1)
          clear y0 y1 y2 y3 y4 y5 y6 lt3
          have LW1 := hid (LWA.out.trans (Q1.out.lw DV.out))
          have HG1 := hid (HG.out.lw LW1.out)
          have zz := Q1.out.t.obj HBXN.out NX.out
          have z0 := cell_of_row _ _ 0 _ _ _ zz
          have z1 := cell_of_row _ _ 1 _ _ _ zz
          have z2 := cell_of_row _ _ 2 _ _ _ zz
          have z3 := cell_of_row _ _ 3 _ _ _ zz
          have z4 := cell_of_row _ _ 4 _ _ _ zz
          have z5 := cell_of_row _ _ 5 _ _ _ zz
          have z6 := cell_of_row _ _ 6 _ _ _ zz
          simp only [List.getElem?_toArray, List.getElem?_cons_zero, List.getElem?_cons_succ] at z0 z1 z2 z3 z4 z5 z6
          have lz := lt_of_obj zz
          clear zz
          have HQ2 := hid (PSt.insS x Q1.out HG1.out (HB.out.s x mx) (by have := LL.out; simp [ptsT, Pt.txt] at this ⊢; omega))
          go_upto_region 14 with (go_at_call 57; refine HQ2.out.mono ?_; rintro r w2 ⟨rfl, a2, c2, q2⟩; have Q2 := hid q2; clear q2 HQ2)
          clear z0 z1 z2 z3 z4 z5 z6 lz
          have HG2 := hid (HG.out.lw (LWA.out.trans (Q2.out.lw DV.out)))
          have HQ3 : Hid (∀ (pk : Nat), pk = w2.heap.size → Calls Tryd.prog 88 #[.pointer (some ⟨b, 0, none⟩), .slice (some ⟨pk, 0, none⟩) 1 1] (w2.alloc (.cells #[.iface 9 (.string ⟨#[10]⟩)] 20)) fun r w' => r = .returned (.tuple #[]) ∧ ∃ a' c', PSt n b (.slice a LP.length c) wb (.pointer (some ⟨b, 0, none⟩)) a' c' ((LP ++ ptsT [.s [32, 32]] ++ ptsT (ptI x)) ++ ptsT [.s [10]]) w') := fun pk hpk => by subst hpk; exact Q2.out.step2 [.s [10]] HG2.out (by intro x hx; simp only [List.mem_cons, List.not_mem_nil, or_false] at hx; subst hx; trivial) (by simp) (by simp) (by have := LL.out; simp [ptsT, Pt.txt] at this ⊢; omega) w2 (Tch.refl [] w2)
          go_upto_region 15 with (go_at_call 88; refine (HQ3.out _ rfl).mono ?_; rintro r w3 ⟨rfl, a3, c3, q3⟩; have Q3 := hid q3; clear q3 HQ3)
          have HJ : Hid (∃ a' c', PSt n b (.slice va l.length vc) w0 (.pointer (some ⟨b, 0, none⟩)) a' c' (BASE2 ++ prIs (ins.take (k + 1))) w3) := by
            have e : BASE2 ++ prIs (ins.take (k + 1)) = LP ++ (([32, 32] ++ ptsT (ptI x)) ++ [10]) := by rw [HSN.out, ← HLP.out]; simp
            have e2 : LP ++ ptsT [.s [32, 32]] ++ ptsT (ptI x) ++ ptsT [.s [10]] = LP ++ (([32, 32] ++ ptsT (ptI x)) ++ [10]) := by simp [ptsT, Pt.txt]
            have q := Q3.out
            rw [e2] at q
            show ∃ a' c', _
            rw [e]
            exact P.out.join TA.out q
          clear Q3 Q2 Q1 Q0
          obtain ⟨a4, c4, HJ⟩ := HJ.out
          have HJ := hid HJ
          go_wp2_with fail
          go_roundw
          case rel => exact ⟨k + 1, a4, c4, by go_num, by omega, HJ.out⟩
          case measure => simp [intOf]; omega
        · obtain rfl : k = ins.length := by omega
          rw [List.take_length] at P
          have HG1 := hid (HG.out.lw (P.out.lw HD.out))
          have LT : Hid ((BASE2 ++ prIs ins).length + 300 ≤ 900000000) := by have := LEN2.out; show _ ≤ _; simp only [List.length_append] at this ⊢; omega
          have HQ1 : Hid (∀ (pk : Nat), pk = wr.heap.size → Calls Tryd.prog 88 #[.pointer (some ⟨b, 0, none⟩), .slice (some ⟨pk, 0, none⟩) 1 1] (wr.alloc (.cells #[.iface 9 (.string ⟨#[32, 32]⟩)] 20)) fun r w' => r = .returned (.tuple #[]) ∧ ∃ a' c', PSt n b (.slice va l.length vc) w0 (.pointer (some ⟨b, 0, none⟩)) a' c' ((BASE2 ++ prIs ins) ++ ptsT [.s [32, 32]]) w') := fun pk hpk => by subst hpk; exact P.out.step2 [.s [32, 32]] HG1.out (by intro x hx; simp only [List.mem_cons, List.not_mem_nil, or_false] at hx; subst hx; trivial) (by simp) (by simp) (by have := LT.out; simp [ptsT, Pt.txt] at this ⊢; omega) wr (Tch.refl [] wr)
          go_upto_region 17 with (go_at_call 88; refine (HQ1.out _ rfl).mono ?_; rintro r w1 ⟨rfl, a1, c1, q1⟩; have Q1 := hid q1; clear q1 HQ1)
          have zz := HPO.out _ Q1.out.t
          have z3 := cell_of_row _ _ 3 _ _ _ zz
          have z4 := cell_of_row _ _ 4 _ _ _ zz
          have z5 := cell_of_row _ _ 5 _ _ _ zz
          have z6 := cell_of_row _ _ 6 _ _ _ zz
          simp only [List.getElem?_toArray, List.getElem?_cons_zero, List.getElem?_cons_succ] at z3 z4 z5 z6
          have lz := lt_of_obj zz
          clear zz
          have HG2 := hid (HG.out.lw (Q1.out.lw HD.out))
          have HQ2 := hid (PSt.lastS e ra y m Q1.out HG2.out HB.out.e HB.out.a HB.out.y HB.out.n (by have := LT.out; simp [ptsT, Pt.txt] at this ⊢; omega))
          go_upto_region 18 with (go_at_call 58; refine HQ2.out.mono ?_; rintro r w2 ⟨rfl, a2, c2, q2⟩; have Q2 := hid q2; clear q2 HQ2)
          clear z3 z4 z5 z6 lz
          have HG3 := hid (HG.out.lw (Q2.out.lw HD.out))
          have LT2 : Hid ((BASE2 ++ prIs ins ++ ptsT [.s [32, 32]] ++ ptsT (ptL e ra y m)).length + 10 ≤ 900000000) := by
            have h1 := HLN.out
            have h2 := HB2.out
            have h3 := HBA.out
            subst h3 h2
            show _ ≤ _
            simp [prB, ptsT, Pt.txt] at h1 ⊢
            omega
          have HQ3 : Hid (∀ (pk : Nat), pk = w2.heap.size → Calls Tryd.prog 88 #[.pointer (some ⟨b, 0, none⟩), .slice (some ⟨pk, 0, none⟩) 1 1] (w2.alloc (.cells #[.iface 9 (.string ⟨#[10]⟩)] 20)) fun r w' => r = .returned (.tuple #[]) ∧ ∃ a' c', PSt n b (.slice va l.length vc) w0 (.pointer (some ⟨b, 0, none⟩)) a' c' ((BASE2 ++ prIs ins ++ ptsT [.s [32, 32]] ++ ptsT (ptL e ra y m)) ++ ptsT [.s [10]]) w') := fun pk hpk => by subst hpk; exact Q2.out.step2 [.s [10]] HG3.out (by intro x hx; simp only [List.mem_cons, List.not_mem_nil, or_false] at hx; subst hx; trivial) (by simp) (by simp) (by have := LT2.out; simp [ptsT, Pt.txt] at this ⊢; omega) w2 (Tch.refl [] w2)
          go_wp2_with (go_at_call 88; refine (HQ3.out _ rfl).mono ?_; rintro r w3 ⟨rfl, a3, c3, q3⟩; have Q3 := hid q3; clear q3 HQ3)
          go_end0
          refine ⟨rfl, ?_⟩
          have q := Q3.out.fin
          have h2 := HB2.out
          have h3 := HBA.out
          subst h3 h2
          have e2 : l ++ prB ⟨lab, .slice pa phis.length pc, phis, .slice ia ins.length ic, ins, e, ra, y, m⟩ = l ++ ptsT [.s [64], .i lab, .s [58, 10]] ++ prFs phis ++ prIs ins ++ ptsT [.s [32, 32]] ++ ptsT (ptL e ra y m) ++ ptsT [.s [10]] := by simp [prB, ptsT, Pt.txt]
          rw [e2]
          exact q.pre T0.out
end Go.Proofs.YtbdjpmmbnlmkhaaDoor

