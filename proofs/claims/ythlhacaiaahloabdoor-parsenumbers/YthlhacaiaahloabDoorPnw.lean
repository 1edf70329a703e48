
/- ParseNumbers: the walk. -/
import Derived.Test.YthlhacaiaahloabDoorPnm
set_option linter.unusedSimpArgs false
set_option linter.unusedVariables false
namespace Go.Proofs.YthlhacaiaahloabDoor
open Go.RowKit Go.Sort

/-- A block of the call's own whose instructions grow. -/
structure WB (w : World) (bb : Nat) (lab e a y n : Int) (ia : Option Addr) (ic : Nat) (ins : List InsM) (W : World) : Prop where
  m : W.heap[bb]? = some (.cells (bkC lab (.slice ia ins.length ic) e a y n) 30 (0, 0))
  i : Sl W 36 7 (.slice ia ins.length ic) ins.length (insC ins)
  o : ∀ b ∈ blks (.slice ia ins.length ic), w.heap.size ≤ b ∧ b ≠ bb
  t : Tch [] w W
  l : w.heap.size ≤ bb
variable {w W W' : World} {bb : Nat} {lab e a y n : Int} {ia : Option Addr} {ic : Nat} {ins : List InsM}
theorem WB.call (h : WB w bb lab e a y n ia ic ins W) (t : Tch [] W W') : WB w bb lab e a y n ia ic ins W' :=
  ⟨t.obj h.m (by simp), h.i.kept t (by simp), h.o, h.t.trans t, h.l⟩
theorem WB.cells (h : WB w bb lab e a y n ia ic ins W) : W.cell? ⟨bb, 0, none⟩ = some (.int .i64 lab) ∧ W.cell? ⟨bb, 1, none⟩ = some (.slice none 0 0) ∧ W.cell? ⟨bb, 2, none⟩ = some (.slice ia ins.length ic) ∧ W.cell? ⟨bb, 3, none⟩ = some (.int .u8 e) ∧ W.cell? ⟨bb, 4, none⟩ = some (.int .i64 a) ∧ W.cell? ⟨bb, 5, none⟩ = some (.int .i64 y) ∧ W.cell? ⟨bb, 6, none⟩ = some (.int .i64 n) ∧ (∀ j, W.frozen? ⟨bb, j, none⟩ = false) ∧ bb < W.heap.size :=
  ⟨cell_of_row _ _ 0 _ _ _ h.m, cell_of_row _ _ 1 _ _ _ h.m, cell_of_row _ _ 2 _ _ _ h.m, cell_of_row _ _ 3 _ _ _ h.m, cell_of_row _ _ 4 _ _ _ h.m, cell_of_row _ _ 5 _ _ _ h.m, cell_of_row _ _ 6 _ _ _ h.m, fun j => frozen_of_row _ _ j _ _ h.m, lt_of_obj h.m⟩
theorem WB.app {x : InsM} {va : Option Addr} {vn vc : Nat} {o : Obj} (h : WB w bb lab e a y n ia ic ins W) (hs : Sl W' 36 7 (.slice va vn vc) (ins.length + 1) (insC ins ++ x.cells)) (t : Tch (blks (.slice ia ins.length ic)) (W.alloc o) W')
    (hb : ∀ b ∈ blks (.slice va vn vc), b ∈ blks (.slice ia ins.length ic) ∨ (W.alloc o).heap.size ≤ b) :
    WB w bb lab e a y n va vc (ins ++ [x]) (W'.setCell ⟨bb, 2, none⟩ (.slice va vn vc)) ∧ W'.cell? ⟨bb, 2, none⟩ = some (.slice ia ins.length ic) ∧ (∀ j, W'.frozen? ⟨bb, j, none⟩ = false) := by
  have hvn : vn = (ins ++ [x]).length := by
    obtain ⟨a, q, e⟩ := hs.shape
    cases e
    simp
  have ta : Tch [] W (W.alloc o) := (Tch.refl [] W).alloc _
  have t1 : Tch (blks (.slice ia ins.length ic)) W W' := (ta.mono (by simp)).trans t
  have hm := t1.obj h.m (fun hx => (h.o _ hx).2 rfl)
  have hsz : (W.alloc o).heap.size = W.heap.size + 1 := Array.size_push _
  have hlt := lt_of_obj h.m
  have ht0 := h.t.size
  have hv : ∀ b ∈ blks (.slice va vn vc), w.heap.size ≤ b ∧ b ≠ bb := fun b hm => by
    rcases hb b hm with h1 | h1
    · exact h.o b h1
    · omega
  have t2 : Tch [bb] W' (W'.setCell ⟨bb, 2, none⟩ (.slice va vn vc)) := (Tch.refl _ _).setCell (.inl (by simp)) _
  have hl := h.l
  subst hvn
  refine ⟨⟨?_, ?_, hv, ?_, hl⟩, cell_of_row _ _ 2 _ _ _ hm, fun j => frozen_of_row _ _ j _ _ hm⟩
  · exact cells_set hm rfl
  · have q := hs.kept t2 (fun b hm h2 => by simp at h2; exact (hv b hm).2 h2)
    rw [insC_one] at q
    rw [List.length_append, List.length_singleton] at *
    exact q
  · exact (h.t.trans2 t1 (fun x hx => .inr (h.o x hx).1)).trans2 t2 (fun x hx => .inr (by simp at hx; omega))
/-- A program of one block, laid just now. -/
theorem one_plp (B : ABlk) {W : World} (iv : Value) (b : Nat) (hb : b = W.heap.size) (hi : Sl W 36 7 iv B.ins.length (insC B.ins)) : Plp (W.alloc (.cells (bkC B.lab iv B.e B.a B.y B.n) 30)) (.slice (some ⟨b, 0, none⟩) 1 1) [B.at iv] := by
  refine ⟨sl_new W b hb 30 7 1 (B.at iv).cells rfl (by decide), ?_, ?_, ?_⟩
  · intro X hX; simp at hX; subst hX; exact ⟨rfl, rfl⟩
  · intro X hX; simp at hX; subst hX; exact hi.kept ((Tch.refl [] W).alloc _) (by simp)
  · intro X hX; simp at hX; subst hX; have := hi.le; unfold maxLen at this; exact this
/-- Same, of a program and one of one block that was laid just now. -/
theorem same_one (B : ABlk) {w Wp : World} {v iv : Value} {bs : List BlkM} (t : Tch [] w Wp) (h : Plp Wp v bs) (hi : Sl Wp 36 7 iv B.ins.length (insC B.ins)) (he : bs.map BlkM.ab = [B]) :
    Calls Tryd.prog 10 #[.agg #[v], .agg #[.slice (some ⟨Wp.heap.size + 1, 0, none⟩) 1 1]] ((Wp.alloc (.cells #[v] 39)).alloc (.cells (bkC B.lab iv B.e B.a B.y B.n) 30)) fun e w' => e = .returned (.bool true) ∧ Tch [] w w' := by
  have ta : Tch [] Wp (Wp.alloc (.cells #[v] 39)) := (Tch.refl [] Wp).alloc _
  have tb : Tch [] (Wp.alloc (.cells #[v] 39)) ((Wp.alloc (.cells #[v] 39)).alloc (.cells (bkC B.lab iv B.e B.a B.y B.n) 30)) := (Tch.refl [] _).alloc _
  refine (same_true _ _ bs [B.at iv] _ ((h.tch ta).tch tb) (one_plp B iv (Wp.heap.size + 1) (by simp) (hi.kept ta (by simp))) (by rw [he]; rfl)).mono ?_
  rintro e w' ⟨rfl, t2⟩
  exact ⟨rfl, ((t.trans ta).trans tb).trans t2⟩
theorem bytes_lit (a : List UInt8) : (⟨a.toArray⟩ : ByteArray) = bytesOf a := rfl
theorem take_get {l : List Int} {k : Nat} {n : Int} (h : l[k]? = some n) : l.take (k + 1) = l.take k ++ [n] := by
  obtain ⟨hi, rfl⟩ := List.getElem?_eq_some_iff.1 h
  rw [List.take_succ_eq_append_getElem hi]
theorem nm_text (l : List Int) (k : Nat) (n : Int) (h : l[k]? = some n) : bytesOf (headB ++ lnsF 0 (l.take k)) ++ (((bytesOf (37 :: Lib.itoa (k : Int)) ++ (⟨#[32, 61, 32]⟩ : ByteArray)) ++ bytesOf (Lib.itoa n)) ++ (⟨#[10]⟩ : ByteArray)) = bytesOf (headB ++ lnsF 0 (l.take (k + 1))) := by
  have hk : k < l.length := (List.getElem?_eq_some_iff.1 h).1
  rw [show (⟨#[32, 61, 32]⟩ : ByteArray) = bytesOf [32, 61, 32] from rfl, show (⟨#[10]⟩ : ByteArray) = bytesOf [10] from rfl, bytes_app, bytes_app, bytes_app, bytes_app, take_get h, lnsF_snoc]
  congr 1
  simp [lineB, itoa_nat, Nat.min_eq_left (Nat.le_of_lt hk)]
theorem cells_i64 {w : World} {l : List Int} {b o m c : Nat} (h : CelL w 1 (.slice (some ⟨b, o, none⟩) m c) l.length (l.flatMap fun y => [.int .i64 y])) {k : Nat} {n : Int} (hk : l[k]? = some n) : w.cell? ⟨b, o + k, none⟩ = some (.int .i64 n) := by
  have hlt : k < l.length := (List.getElem?_eq_some_iff.1 hk).1
  obtain ⟨h0, a, c', h1, h2, h3⟩ := h
  cases h1
  rcases h3 with h3 | ⟨b', off', h4, h5⟩
  · omega
  · cases h4
    have g := fm_get (f := fun y : Int => [Value.int .i64 y]) (sz := 1) (fun _ => rfl) l k 0 n hk (by omega)
    rw [Nat.mul_one, Nat.add_zero] at g
    exact h5 k _ g
theorem celL_shape {w : World} {sz n : Nat} {v : Value} {cs : List Value} (h : CelL w sz v n cs) : ∃ a c, v = .slice a n c ∧ n ≤ maxLen ∧ (0 < n → ∃ b o, a = some ⟨b, o, none⟩) := by
  obtain ⟨h0, a, c, h1, h2, h3⟩ := h
  refine ⟨a, c, h1, h2, fun hn => ?_⟩
  rcases h3 with h3 | ⟨b, off, rfl, _⟩
  · omega
  · exact ⟨b, off, rfl⟩
set_option maxRecDepth 100000 in
set_option maxHeartbeats 8000000 in
theorem numbers_walk (l : List Int) (v : Value) (w : World) (hE : Env w) (hk : Kinds w) (hw : WordsH w) (hl : ∀ n ∈ l, W64 n) (hv : CelL w 1 v l.length (l.flatMap fun y => [.int .i64 y])) :
    Calls Tryd.prog 3 #[v] w fun e w' => e = .returned (.bool true) ∧ Tch [] w w' := by
  have hm : Tryd.prog.follows .mixedOrders = true := by kernel_rfl
  obtain ⟨va, vc, rfl, hle, hptr⟩ := celL_shape hv
  unfold maxLen at hle
  have HE := hid hE
  have HK := hid hk
  have HW := hid hw
  have HL := hid hl
  have HV := hid hv
  have HA := hid (awake_p w hE hk hw)
  clear hE hk hw hl hv
  by_cases h40 : 40 < l.length
  · have h40' : (40 : Int) < l.length := by omega
    go_enter Tryd.func3, Tryd.ntmps3
    go_wp2_with (go_at_call 6; refine HA.out.mono ?_; rintro e W ⟨rfl, t1⟩; have T1 := hid t1; clear t1)
    go_ret
    exact ⟨rfl, T1.out⟩
  · have h40' : ¬ (40 : Int) < l.length := by omega
    go_enter Tryd.func3, Tryd.ntmps3
    go_wp2_with (go_at_call 6; refine HA.out.mono ?_; rintro e W ⟨rfl, t1⟩; have T1 := hid t1; have hsz := t1.size; clear t1)
    have B0 : Hid (WB w W.heap.size 7 3 0 0 0 none 0 [] (W.alloc (.cells (bkC 7 (.slice none 0 0) 3 0 0 0) 30))) := ⟨heap_alloc_new _ _, Sl.nil _ _ _, by simp [blks], T1.out.alloc _, hsz⟩
    clear T1 hsz
    generalize W.heap.size = bb at *
    go_loopw [3, 5, 6, 19] (fun vt _ _ vi wr => ∃ (k : Nat) (s : ByteArray) (ia : Option Addr) (ic : Nat), vi = .int .i64 k ∧ vt = .string s ∧ k ≤ l.length ∧ s.size ≤ 4 + 50 * k ∧ Hid (s = bytesOf (headB ++ lnsF 0 (l.take k))) ∧ Hid (WB w bb 7 3 0 0 0 ia ic (insN 0 (l.take k)) wr)) (fun _ _ _ vi _ => l.length - (intOf vi).toNat)
    case atStart => exact ⟨0, _, none, 0, rfl, rfl, Nat.zero_le _, by decide, rfl, B0.out⟩
    case round =>
      clear B0
      obtain ⟨k, s, ia, ic, rfl, rfl, hk, hs, HS, HB⟩ := hrel
      by_cases hlt : k < l.length
      · obtain ⟨n, hn⟩ : ∃ n, l[k]? = some n := ⟨l[k], by simp [hlt]⟩
        obtain ⟨b, o, rfl⟩ := hptr (by omega)
        have hc0 := cells_i64 HV.out hn
        have hc : wr.cell? ⟨b, o + k, none⟩ = some (.int .i64 n) := HB.out.t.cellk hc0
        have hwn := HL.out n (List.mem_of_getElem? hn)
        have hwk : W64 (k : Int) := by unfold W64; omega
        have HR := hid (reg_p (k : Int) hwk)
        have HNn := hid (number_p n hwn)
        have z1 : (bytesOf (37 :: Lib.itoa (k : Int))).size ≤ 22 := by rw [bytes_size]; have := itoa_len (k : Int) hwk; simp; omega
        have z2 : (bytesOf (Lib.itoa n)).size ≤ 21 := by rw [bytes_size]; exact itoa_len n hwn
        have hlen : (insN 0 (l.take k)).length ≤ 40 := by rw [insN_len]; simp; omega
        have HN := hid hn
        clear hc0 hwn hwk hn
        have hsn : Hid (s ++ (((bytesOf (37 :: Lib.itoa (k : Int)) ++ (⟨#[32, 61, 32]⟩ : ByteArray)) ++ bytesOf (Lib.itoa n)) ++ (⟨#[10]⟩ : ByteArray)) = bytesOf (headB ++ lnsF 0 (l.take (k + 1)))) := by show _ = _; rw [HS.out]; exact nm_text l k n HN.out
        have hsz : Hid ((s ++ (((bytesOf (37 :: Lib.itoa (k : Int)) ++ (⟨#[32, 61, 32]⟩ : ByteArray)) ++ bytesOf (Lib.itoa n)) ++ (⟨#[10]⟩ : ByteArray))).size ≤ 4 + 50 * (k + 1)) := by
          show _ ≤ _
          simp only [ByteArray.size_append]
          have : (⟨#[32, 61, 32]⟩ : ByteArray).size = 3 := rfl
          have : (⟨#[10]⟩ : ByteArray).size = 1 := rfl
          omega
        have hi1 : Hid (insN 0 (l.take (k + 1)) = insN 0 (l.take k) ++ [⟨0, 0, (k : Int), 0, 0, n, 0⟩]) := by
          show _ = _
          rw [take_get HN.out, insN_snoc]
          simp [Nat.min_eq_left hk]
        go_wp2_with (first
          | (go_at_call 7; refine (HR.out _).mono ?_; rintro e Wa ⟨rfl, hb⟩; have HB := hid (HB.out.call (Tch.of_below hb)); clear hb)
          | (go_at_call 8; refine (HNn.out _).mono ?_; rintro e Wb ⟨rfl, hb⟩; have HB := hid (HB.out.call (Tch.of_below hb)); clear hb; obtain ⟨b0, b1, b2, b3, b4, b5, b6, f1, lb⟩ := HB.out.cells)
          | (at_builtin; refine wpList_append_t _ rfl _ _ 28 rfl Tryd.underlying28 info_ins rfl (by decide) (.slice ia (insN 0 (l.take k)).length ic) rfl (HB.out.i.kept ((Tch.refl [] _).alloc _) (by simp)) ⟨_, 0, none⟩ 1 1 rfl (InsM.cells ⟨0, 0, (k : Int), 0, 0, n, 0⟩) rfl (cells_new _ _ rfl (InsM.cells ⟨0, 0, (k : Int), 0, 0, n, 0⟩) 36) (by simp [InsM.cells, Value.oneCell']) (by omega) ?_; intro v' w' hs' ht' hd hb'; obtain ⟨va', vc', rfl⟩ := hs'.shape; obtain ⟨q1, c9, f9⟩ := HB.out.app hs' ht' hb'; have HQ := hid q1; clear hs' ht' hd hb' q1))
        go_roundw
        case rel => exact ⟨k + 1, _, va', vc', by go_num, rfl, by omega, hsz.out, hsn.out, by show WB _ _ _ _ _ _ _ _ _ _ _; rw [hi1.out]; exact HQ.out⟩
        case measure => simp [intOf]; omega
      · obtain rfl : k = l.length := by omega
        rw [List.take_length] at HS HB
        have HPR : Hid (parseR (s ++ (⟨#[116, 114, 97, 112]⟩ : ByteArray)) = (nmP l, 0, 0)) := by
          show _ = _
          rw [HS.out, show (⟨#[116, 114, 97, 112]⟩ : ByteArray) = bytesOf lTrap from rfl, bytes_app]
          exact nm_reads l (by omega) HL.out
        have hs2 : (s ++ (⟨#[116, 114, 97, 112]⟩ : ByteArray)).size ≤ 1000000000000 := by
          simp only [ByteArray.size_append]
          have : (⟨#[116, 114, 97, 112]⟩ : ByteArray).size = 4 := rfl
          omega
        have HP := hid (parse_any _ hs2 wr (HE.out.below (HB.out.t.below (Nat.le_refl _) (by simp))) (HK.out.tch HB.out.t) (HW.out.tch HB.out.t (by simp)))
        clear hs2
        go_wp2_with (first
          | (go_at_call 9; refine HP.out.mono ?_; rintro e Wp ⟨pa, pc, bs, rfl, hab, t1, pg⟩; rw [HPR.out] at hab ⊢; have HB := hid (HB.out.call t1); have PG := hid (pg.plp); have CS := hid (same_one ⟨7, insN 0 l, 3, 0, 0, 0⟩ HB.out.t PG.out HB.out.i hab); clear t1 pg hab; unfold bkC at CS; obtain ⟨b0, b1, b2, b3, b4, b5, b6, f1, lb⟩ := HB.out.cells)
          | (go_at_call 10; refine CS.out.mono ?_; rintro e Wq ⟨rfl, t2⟩; have T2 := hid t2; clear t2))
        go_ret
        exact ⟨rfl, T2.out⟩
end Go.Proofs.YthlhacaiaahloabDoor
