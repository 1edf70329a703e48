/- LexAny, walked. -/
import Derived.Test.YtnflohejjgmlnaaDoorAnR
import Derived.BigQuiet
import Derived.Deep.QuietTactic
set_option linter.unusedSimpArgs false
set_option linter.unusedVariables false
namespace Go.Proofs.YtnflohejjgmlnaaDoor
open Go.RowKit Go.Sort
attribute [local go_sem] Oper.semAt_some

/-- Bytes that came in. -/
def U8sAt (w : World) (v : Value) (l : List Int) : Prop := CelL w 1 v l.length (l.flatMap fun y => [.int .u8 y])
theorem U8sAt.shape {w : World} {v : Value} {l : List Int} (h : U8sAt w v l) : ∃ a c, v = .slice a l.length c ∧ l.length ≤ maxLen := by
  obtain ⟨h0, a, c, h1, h2, h3⟩ := h
  exact ⟨a, c, h1, h2⟩
theorem U8sAt.ptr {w : World} {v : Value} {l : List Int} (h : U8sAt w v l) (hn : 0 < l.length) : ∃ b o c, v = .slice (some ⟨b, o, none⟩) l.length c := by
  obtain ⟨h0, a, c, h1, h2, h3⟩ := h
  rcases h3 with h3 | ⟨b, off, rfl, _⟩
  · omega
  · exact ⟨b, off, c, h1⟩
theorem U8sAt.at {w : World} {b o m c : Nat} {l : List Int} (h : U8sAt w (.slice (some ⟨b, o, none⟩) m c) l) {i : Nat} {x : Int} (hi : l[i]? = some x) : w.cell? ⟨b, o + i, none⟩ = some (.int .u8 x) := by
  have hlt : i < l.length := (List.getElem?_eq_some_iff.1 hi).1
  obtain ⟨h0, a, c', h1, h2, h3⟩ := h
  cases h1
  rcases h3 with h3 | ⟨b', off', h4, h5⟩
  · omega
  · cases h4
    have g := fm_get (f := fun y : Int => [Value.int .u8 y]) (sz := 1) (fun _ => rfl) l i 0 x hi (by omega)
    rw [Nat.mul_one, Nat.add_zero] at g
    exact h5 i _ g
set_option maxRecDepth 100000 in
set_option maxHeartbeats 8000000 in
theorem any_in (s : ByteArray) (ls : List Int) (v : Value) (w : World) (hE : Env w) (hp : U8sAt w v ls) (wp : ∀ p ∈ ls, 0 ≤ p ∧ p ≤ 255) (n0 : s.size ≤ 200) (n1 : ls.length ≤ 100) :
    Calls Tryd.prog 4 #[.string s, v] w fun e w' => e = .returned (.bool true) ∧ Below w.heap.size w w' := by
  obtain ⟨a, c, rfl, hml⟩ := hp.shape
  have g0 : ¬ (200 : Int) < (s.size : Int) := by omega
  have g1 : ¬ (100 : Int) < (ls.length : Int) := by omega
  have bA : Below w.heap.size w (w.alloc (.cells #[.bool false] 4)) := (Below.refl _ w).alloc (Nat.le_refl _) _
  have HA := hid (awake_any _ (hE.below bA))
  have HE := hid hE
  have HP := hid hp
  have HW := hid wp
  clear hp wp hE
  refine calls_marks Tryd.func4 rfl ?_
  simp only [Tryd.ntmps4, List.size_toArray, List.length_cons, List.length_nil, Nat.reduceAdd, Nat.reduceSub, Array.replicate_succ, Array.replicate_zero, List.push_toArray, List.append_toArray, List.nil_append, List.cons_append]
  go_wp2_with fail
  refine HA.out.mono ?_
  rintro e w1 ⟨rfl, b1⟩
  have o4 : w1.heap[w.heap.size]? = some (.cells #[.bool false] 4 (0, 0)) := (b1.block _ (by simp)).trans (heap_alloc_new w _)
  have B1 := hid (bA.trans (b1.mono (by simp)))
  have HP1 : Hid (U8sAt w1 _ ls) := HP.out.below B1.out
  have O4 := hid o4
  have l4 : w.heap.size < w1.heap.size := lt_of_obj o4
  clear b1 HA HP bA o4
  go_wp2_with fail
  go_loopw [5, 29] (fun v5 v29 wr => ∃ (k : Nat) (l : List UInt8), v5 = .string (bytesOf l) ∧ v29 = .int .i64 k ∧ k ≤ ls.length ∧ (bytesOf l).size ≤ k ∧ wr = w1) (fun _ v29 _ => ls.length - (intOf v29).toNat)
  case atStart => exact ⟨0, [], rfl, rfl, Nat.zero_le _, by decide, rfl⟩
  case round =>
    obtain ⟨k, l, rfl, rfl, hk, hl, rfl⟩ := hrel
    by_cases hlt : k < ls.length
    · obtain ⟨b, o, c2, he⟩ := HP1.out.ptr (by omega)
      obtain ⟨rfl, rfl⟩ : a = some ⟨b, o, none⟩ ∧ c = c2 := by cases he; exact ⟨rfl, rfl⟩
      have hx : ls[k]? = some ls[k] := List.getElem?_eq_getElem hlt
      have c0 := HP1.out.at hx
      have hwf := HW.out _ (List.getElem_mem hlt)
      generalize ls[k] = x at *
      have hlt2 : (k : Int) < (ls.length : Int) := by omega
      obtain ⟨j, hj⟩ : ∃ j : Nat, x.tmod 23 = (j : Int) := ⟨(x.tmod 23).toNat, by have := Int.tmod_eq_emod_of_nonneg (a := x) (b := 23) hwf.1; omega⟩
      have hj2 : j < 23 := by have := Int.tmod_eq_emod_of_nonneg (a := x) (b := 23) hwf.1; omega
      obtain ⟨j1, hj1⟩ : ∃ j1, j1 = j + 1 := ⟨_, rfl⟩
      have hj3 : (j : Int) + 1 = (j1 : Int) := by omega
      have hj4 : (j : Int) ≤ (j1 : Int) := by omega
      have hj5 : (j1 : Int) ≤ 23 := by omega
      have hjs : ((⟨#[37, 64, 36, 97, 98, 45, 48, 49, 50, 51, 52, 53, 54, 55, 56, 57, 61, 44, 58, 32, 10, 35, 33]⟩ : ByteArray).extract j j1).size = 1 := by rw [ByteArray.size_extract]; show min j1 23 - j = 1; omega
      have hz3 : (bytesOf l).size + ((⟨#[37, 64, 36, 97, 98, 45, 48, 49, 50, 51, 52, 53, 54, 55, 56, 57, 61, 44, 58, 32, 10, 35, 33]⟩ : ByteArray).extract j j1).size ≤ 9223372036854775807 := by omega
      clear hx he hwf hj1
      go_wp2_with fail
      go_roundw
      case rel => exact ⟨k + 1, l ++ ((⟨#[37, 64, 36, 97, 98, 45, 48, 49, 50, 51, 52, 53, 54, 55, 56, 57, 61, 44, 58, 32, 10, 35, 33]⟩ : ByteArray).extract j j1).data.toList, by rw [← bytes_app, list_bytes], rfl, by omega, by rw [← bytes_app, list_bytes, ByteArray.size_append, hjs]; omega, trivial⟩
      case measure => simp [intOf]; omega
    · obtain rfl : k = ls.length := by omega
      have hlt2 : ¬ (ls.length : Int) < (ls.length : Int) := by omega
      have hls : (bytesOf l).size ≤ 100 := by omega
      generalize bytesOf l = s2 at *
      have oT : (wr.alloc (.cells #[.string s, .string s2] 9)).heap[wr.heap.size]? = some (.cells #[.string s, .string s2] 9 (0, 0)) := heap_alloc_new wr _
      have bT : Below wr.heap.size wr (wr.alloc (.cells #[.string s, .string s2] 9)) := (Below.refl _ wr).alloc (Nat.le_refl _) _
      have oR : Boxed (wr.alloc (.cells #[.string s, .string s2] 9)) w.heap.size 4 (.bool false) := (bT.block _ l4).trans O4.out
      have lT : wr.heap.size < (wr.alloc (.cells #[.string s, .string s2] 9)).heap.size := lt_of_obj oT
      have OT := hid oT
      have OR := hid oR
      have BT := hid (B1.out.trans (bT.mono B1.out.size))
      clear oT bT oR O4 HP1 HW
      go_wp2_with fail
      generalize (wr.alloc (.cells #[.string s, .string s2] 9)) = W1 at *
      refine wp_loop_rounds 3 ?_
      rw [rounds_succ]
      refine any_round _ rfl _ 0 (by decide) s n0 w.heap.size wr.heap.size w.heap.size [] W1 (Nat.le_refl _) (fun W h => HE.out.below (BT.out.trans h)) OR.out (by rw [cell_of_row _ _ 0 _ _ _ OT.out]; rfl) _ _ _ _ _ _ _ _ _ _ _ _ _ _ _ _ _ _ _ _ _ _ _ _ _ _ _ _ _ _ _ _ _ _ _ _ _ _ _ _ _ _ _ _ _ _ _ _ _ _ _ _ _ _ _ _ _ _ _ _ _ _ _ _ _ _ _ _ _ _ _ _ _ _ _ _ _ _ _ _ _ _ _ _ _ (fun D1 W2 x0 x1 x2 x3 x4 x5 x6 x7 x8 x9 x10 x11 x12 x13 x14 x15 x16 x17 x18 x19 x20 x21 x22 x23 x24 x25 x26 x27 x28 x29 x30 x31 x32 x33 x34 x35 x36 x37 x38 x39 x40 x41 x42 x43 x44 x45 x46 x47 x48 x49 x50 x51 x52 x53 x54 x55 x56 x57 x58 x59 x60 x61 x62 x63 x64 x65 x66 x67 x68 x69 x70 x71 x72 x73 x74 x75 x76 x77 x78 x79 x80 x81 x82 x83 x84 hb1 hD1 hK1 => ?_)
      show Code.rounds _ _ _ 2 _ _
      rw [rounds_succ]
      have OR2 : Hid (Boxed W2 w.heap.size 4 (.bool false)) := (hb1.block _ (by omega)).trans OR.out
      have BT2 := hid (BT.out.trans (hb1.mono (by omega)))
      refine any_round _ rfl _ 1 (by decide) s2 (by omega) w.heap.size wr.heap.size w.heap.size _ W2 (Nat.le_refl _) (fun W h => HE.out.below (BT2.out.trans h)) OR2.out (by rw [cell_of_row _ _ 1 _ _ _ ((hb1.block _ lT).trans OT.out)]; rfl) _ _ _ _ _ _ _ _ _ _ _ _ _ _ _ _ _ _ _ _ _ _ _ _ _ _ _ _ _ _ _ _ _ _ _ _ _ _ _ _ _ _ _ _ _ _ _ _ _ _ _ _ _ _ _ _ _ _ _ _ _ _ _ _ _ _ _ _ _ _ _ _ _ _ _ _ _ _ _ _ _ _ _ _ _ (fun D2 W3 y0 y1 y2 y3 y4 y5 y6 y7 y8 y9 y10 y11 y12 y13 y14 y15 y16 y17 y18 y19 y20 y21 y22 y23 y24 y25 y26 y27 y28 y29 y30 y31 y32 y33 y34 y35 y36 y37 y38 y39 y40 y41 y42 y43 y44 y45 y46 y47 y48 y49 y50 y51 y52 y53 y54 y55 y56 y57 y58 y59 y60 y61 y62 y63 y64 y65 y66 y67 y68 y69 y70 y71 y72 y73 y74 y75 y76 y77 y78 y79 y80 y81 y82 y83 y84 hb2 hD2 hK2 => ?_)
      show Code.rounds _ _ _ 1 _ _
      rw [rounds_succ]
      have oR3 : Boxed W3 w.heap.size 4 (.bool false) := (hb2.block _ OR2.out.lt).trans OR2.out
      have l1D := lt_of_obj hK1
      have l2D := lt_of_obj hK2
      have l2W := hb1.size
      have l3W := hb2.size
      have k1 := (hb2.block D1 l1D).trans hK1
      have c4 := oR3.cell
      have f4 := oR3.frozen
      have BX : Boxed (W3.setCell ⟨w.heap.size, 0, none⟩ (.bool true)) w.heap.size 4 (.bool true) := oR3.set _
      have kd2 : (W3.setCell ⟨w.heap.size, 0, none⟩ (.bool true)).heap[D2]? = some (.deferred (some [])) := (Below.heap_setCell _ _ _ _ (fun e => by simp at e; omega)).trans hK2
      have kd1 : (W3.setCell ⟨w.heap.size, 0, none⟩ (.bool true)).heap[D1]? = some (.deferred (some [])) := (Below.heap_setCell _ _ _ _ (fun e => by simp at e; omega)).trans k1
      have kd1b : ((W3.setCell ⟨w.heap.size, 0, none⟩ (.bool true)).putObj D2 (.deferred none)).heap[D1]? = some (.deferred (some [])) := (World.putObj_heap_other (by omega)).trans kd1
      have BY : Boxed ((W3.setCell ⟨w.heap.size, 0, none⟩ (.bool true)).putObj D2 (.deferred none)) w.heap.size 4 (.bool true) := grown_cells (B := 0) (Go.grownBy_putObj' _ D2 (.deferred none)) (fun r e => by cases e; exact ⟨Nat.zero_le _, _, kd2, rfl⟩) BX
      have BZ : Boxed (((W3.setCell ⟨w.heap.size, 0, none⟩ (.bool true)).putObj D2 (.deferred none)).putObj D1 (.deferred none)) w.heap.size 4 (.bool true) := grown_cells (B := 0) (Go.grownBy_putObj' _ D1 (.deferred none)) (fun r e => by cases e; exact ⟨Nat.zero_le _, _, kd1b, rfl⟩) BY
      have e0 := BZ.cell
      have B3 := BT2.out.trans (hb2.mono (by omega))
      have F1 : Below w.heap.size w ((W3.setCell ⟨w.heap.size, 0, none⟩ (.bool true)).putObj D2 (.deferred none)) := ownFrom_below (β := Unit) (Nat.le_refl _) (Nat.le_refl _) () _ _ _ (B3.setCell (p := ⟨w.heap.size, 0, none⟩) (by simp) (.bool true)) (Go.grownBy_putObj' _ D2 (.deferred none)) (fun r e => by cases e; exact ⟨by omega, _, kd2, rfl⟩)
      have FB : Hid (Below w.heap.size w (((W3.setCell ⟨w.heap.size, 0, none⟩ (.bool true)).putObj D2 (.deferred none)).putObj D1 (.deferred none))) := ownFrom_below (β := Unit) (Nat.le_refl _) (Nat.le_refl _) () _ _ _ F1 (Go.grownBy_putObj' _ D1 (.deferred none)) (fun r e => by cases e; exact ⟨by omega, _, kd1b, rfl⟩)
      have K2 := hid kd2
      have K1b := hid kd1b
      clear hb1 hb2 hK1 hK2 k1 BX kd2 kd1 kd1b BY BZ B3 F1 oR3
      go_wp2_with fail
      refine ⟨by simp, .inl ⟨_, _, rfl, run_takeDeferred K2.out, ?_⟩⟩
      refine ⟨by simp, .inl ⟨_, _, rfl, run_takeDeferred K1b.out, ?_⟩⟩
      exact ⟨_, (show (results _ _).run _ _ = .ok (.bool true) _ by simp [results, Tryd.results4, go_sem, e0]), rfl, FB.out⟩
set_option maxRecDepth 100000 in
set_option maxHeartbeats 2000000 in
theorem any_walk (s : ByteArray) (ls : List Int) (v : Value) (w : World) (hE : Env w) (hz : s.size ≤ maxLen) (hp : CelL w 1 v ls.length (ls.flatMap fun y => [.int .u8 y])) (wp : ∀ p ∈ ls, 0 ≤ p ∧ p ≤ 255) :
    Calls Tryd.prog 4 #[.string s, v] w fun e w' => e = .returned (.bool true) ∧ Below w.heap.size w w' := by
  have hp' : U8sAt w v ls := hp
  clear hp
  by_cases hbig : s.size ≤ 200 ∧ ls.length ≤ 100
  · exact any_in s ls v w hE hp' wp hbig.1 hbig.2
  · obtain ⟨a, c, rfl, hml⟩ := hp'.shape
    have bA : Below w.heap.size w (w.alloc (.cells #[.bool false] 4)) := (Below.refl _ w).alloc (Nat.le_refl _) _
    have HA := hid (awake_any _ (hE.below bA))
    unfold maxLen at hz hml
    clear hp' wp hE
    go_enter Tryd.func4, Tryd.ntmps4
    go_wp2_with fail
    refine HA.out.mono ?_
    rintro e w1 ⟨rfl, b1⟩
    have o4 : Boxed w1 w.heap.size 4 (.bool false) := (b1.block _ (by simp)).trans (heap_alloc_new w _)
    have B1 := hid (bA.trans (b1.mono (by simp)))
    have c4 := o4.cell
    have f4 := o4.frozen
    have e0 := (o4.set (.bool true)).cell
    have FB := hid (B1.out.setCell (p := ⟨w.heap.size, 0, none⟩) (by simp) (.bool true))
    clear b1 HA bA o4
    by_cases h1 : s.size ≤ 200
    · have g0 : ¬ (200 : Int) < (s.size : Int) := by omega
      have g1 : (100 : Int) < (ls.length : Int) := by omega
      clear hbig h1
      go_wp2_with fail
      refine bodyPost_ret (v := .bool true) (by simp [results, Tryd.results4, go_sem, e0]) rfl ⟨rfl, ?_⟩
      exact FB.out
    · have g0 : (200 : Int) < (s.size : Int) := by omega
      clear hbig h1
      go_wp2_with fail
      refine bodyPost_ret (v := .bool true) (by simp [results, Tryd.results4, go_sem, e0]) rfl ⟨rfl, ?_⟩
      exact FB.out
end Go.Proofs.YtnflohejjgmlnaaDoor
