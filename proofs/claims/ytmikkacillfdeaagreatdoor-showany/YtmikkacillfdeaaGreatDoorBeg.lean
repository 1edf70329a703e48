
/- What a call of lex.begins comes to: the map of what a sign begins. -/
import Derived.Test.YtmikkacillfdeaaGreatDoorJl
import Derived.Test.YtmikkacillfdeaaGreatDoorMapC
set_option linter.unusedSimpArgs false
set_option linter.unusedVariables false
namespace Go.Proofs.YtmikkacillfdeaaGreatDoor
open Go.RowKit Go.Sort Go.Maps

/-- What a sign begins; 0: nothing. -/
def kindOf (x : Int) : Int :=
  if x = 32 ∨ x = 35 then 8 else if x = 10 then 7 else if x = 61 ∨ x = 44 ∨ x = 58 then 6 else if x = 37 then 2 else if x = 64 then 3 else if x = 36 then 4
  else if 97 ≤ x ∧ x ≤ 122 then 1 else if x = 45 ∨ (48 ≤ x ∧ x ≤ 57) then 5 else 0
/-- A kind as a datum. -/
def kd (k : Int) : DataW Unit := .lit (.int .u8 k)
/-- The map, its letters up to a, its digits up to b. -/
def begF (a b : Int) (x : Int) : Option (DataW Unit) :=
  if 48 ≤ x ∧ x < b then some (kd 5) else if 97 ≤ x ∧ x < a then some (kd 1) else if x = 45 then some (kd 5) else if x = 36 then some (kd 4) else if x = 64 then some (kd 3) else if x = 37 then some (kd 2)
  else if x = 58 then some (kd 6) else if x = 44 then some (kd 6) else if x = 61 then some (kd 6) else if x = 10 then some (kd 7) else if x = 35 then some (kd 8) else if x = 32 then some (kd 8) else none
def BMap (w : World) (mb : Nat) (a b : Int) : Prop := ∃ (n sz : Nat), (n : Int) ≤ 10 + (a - 97) + (b - 48) ∧ MapHas Tryz.prog 21 .i32 (plainElem Tryz.prog 99) w mb n sz (begF a b)
theorem wf_rune {x : Int} (h0 : 0 ≤ x) (h1 : x < 1114112) : (Lit.int .i32 x).wf = true := by
  simp [Lit.wf, IntKind.min, IntKind.max, IntKind.signed, IntKind.bits]; omega
theorem elem_kind (k : Int) (h0 : 0 ≤ k) (h1 : k < 256) : plainElem (H := Unit) Tryz.prog 99 (.int .u8 k) = some (kd k, []) := by
  have hw : (Lit.int .u8 k).wf = true := by simp [Lit.wf, IntKind.min, IntKind.max, IntKind.signed, IntKind.bits]; omega
  unfold plainElem kd
  rw [Tryz.underlying99]
  simp [hw]
/-- One more entry. -/
theorem bput {w : World} {mb n sz : Nat} {f : Int → Option (DataW Unit)} (h : MapHas Tryz.prog 21 .i32 (plainElem Tryz.prog 99) w mb n sz f) (hn : n ≤ 100) (x k : Int) (x0 : 0 ≤ x) (x1 : x < 1000) (k0 : 0 ≤ k) (k1 : k < 256) :
    ∃ w' sz', (Instr.mapUpdate 133 (.map (some mb)) (.int .i32 x) (.int .u8 k)).run Tryz.prog w = .ok () w' ∧ MapHas Tryz.prog 21 .i32 (plainElem Tryz.prog 99) w' mb (n + 1) sz' (fun y => if y = x then some (kd k) else f y) ∧ Tch [mb] w w' := by
  obtain ⟨w', r, m, t⟩ := h.store Tryz.underlying133 Tryz.underlying21 (by unfold maxLen; omega) (elem_kind k k0 k1) (x := x) (wf_rune x0 (by omega))
  exact ⟨w', _, r, m, t⟩
set_option maxRecDepth 100000 in
set_option maxHeartbeats 2000000 in
theorem begins_any (w : World) : Calls Tryz.prog 65 #[] w fun e w' => ∃ mb, e = .returned (.map (some mb)) ∧ w.heap.size ≤ mb ∧ BMap w' mb 123 58 ∧ Below w.heap.size w w' := by
  have hmm := @run_makeMap Tryz.prog
  have m0 := mapHas_made (P := Tryz.prog) (k := 21) (q := .i32) (R := plainElem Tryz.prog 99) w
  obtain ⟨w1, z1, r1, m1, t1⟩ := bput m0 (by omega) 32 8 (by omega) (by omega) (by omega) (by omega)
  obtain ⟨w2, z2, r2, m2, t2⟩ := bput m1 (by omega) 35 8 (by omega) (by omega) (by omega) (by omega)
  obtain ⟨w3, z3, r3, m3, t3⟩ := bput m2 (by omega) 10 7 (by omega) (by omega) (by omega) (by omega)
  obtain ⟨w4, z4, r4, m4, t4⟩ := bput m3 (by omega) 61 6 (by omega) (by omega) (by omega) (by omega)
  obtain ⟨w5, z5, r5, m5, t5⟩ := bput m4 (by omega) 44 6 (by omega) (by omega) (by omega) (by omega)
  obtain ⟨w6, z6, r6, m6, t6⟩ := bput m5 (by omega) 58 6 (by omega) (by omega) (by omega) (by omega)
  obtain ⟨w7, z7, r7, m7, t7⟩ := bput m6 (by omega) 37 2 (by omega) (by omega) (by omega) (by omega)
  obtain ⟨w8, z8, r8, m8, t8⟩ := bput m7 (by omega) 64 3 (by omega) (by omega) (by omega) (by omega)
  obtain ⟨w9, z9, r9, m9, t9⟩ := bput m8 (by omega) 36 4 (by omega) (by omega) (by omega) (by omega)
  obtain ⟨w10, z10, r10, m10, t10⟩ := bput m9 (by omega) 45 5 (by omega) (by omega) (by omega) (by omega)
  have tt : Tch [w.heap.size] (w.alloc (.map #[] 0)) w10 := ((((((((t1.trans t2).trans t3).trans t4).trans t5).trans t6).trans t7).trans t8).trans t9).trans t10
  have B0 : Hid (Below w.heap.size w w10) := ((Below.refl _ w).alloc (Nat.le_refl _) _).trans (tt.below (by simp) (by simp))
  have M0 : Hid (BMap w10 w.heap.size 97 48) := ⟨10, z10, by omega, m10.cong (fun x _ => by
    have h1 : ¬ (48 ≤ x ∧ x < 48) := by omega
    have h2 : ¬ (97 ≤ x ∧ x < 97) := by omega
    unfold begF
    simp only [if_neg h1, if_neg h2])⟩
  clear m0 m1 m2 m3 m4 m5 m6 m7 m8 m9 m10 t1 t2 t3 t4 t5 t6 t7 t8 t9 t10 tt
  go_enter Tryz.func65, Tryz.ntmps65
  go_wp2_with fail
  clear r1 r2 r3 r4 r5 r6 r7 r8 r9 r10 hmm
  generalize hmb : w.heap.size = mb at *
  go_loopw [2] (fun v wr => ∃ r : Int, v = .int .i32 r ∧ 97 ≤ r ∧ r ≤ 123 ∧ Hid (BMap wr mb r 48) ∧ Hid (Below mb w wr)) (fun v _ => (123 - intOf v).toNat)
  case atStart => exact ⟨97, rfl, by omega, by omega, M0.out, B0.out⟩
  case round =>
    clear M0 B0
    obtain ⟨r, rfl, h0, h1, HM, HB⟩ := hrel
    by_cases hlt : r < 123
    · obtain ⟨n, sz, hn, hm⟩ := HM.out
      have hn2 : n ≤ 100 := by omega
      obtain ⟨w', sz', rr, m', t'⟩ := bput hm hn2 r 1 (by omega) (by omega) (by omega) (by omega)
      have c1 : r ≤ 122 := by omega
      have wr1 : IntKind.i32.wrap (r + 1) = r + 1 := by rw [IntKind.wrap_i32]; omega
      have NM : Hid (BMap w' mb (r + 1) 48) := ⟨n + 1, sz', by omega, m'.cong (fun x _ => by
        have e1 : ¬ (48 ≤ x ∧ x < 48) := by omega
        unfold begF
        simp only [if_neg e1]
        by_cases e : x = r
        · subst e; rw [if_pos rfl, if_pos (by omega)]
        · rw [if_neg e]
          by_cases e2 : 97 ≤ x ∧ x < r
          · rw [if_pos e2, if_pos (by omega)]
          · have e3 : ¬ (97 ≤ x ∧ x < r + 1) := by omega
            simp only [if_neg e2, if_neg e3])⟩
      have NB : Hid (Below mb w w') := HB.out.trans (t'.below (by have := HB.out.size; omega) (by simp))
      clear m' t' hm
      go_wp2
      go_roundw
      case rel => exact ⟨r + 1, rfl, by omega, by omega, NM.out, NB.out⟩
      case measure => simp [intOf]; omega
    · obtain rfl : r = 123 := by omega
      go_wp2
      go_loopw [3] (fun v wq => ∃ r : Int, v = .int .i32 r ∧ 48 ≤ r ∧ r ≤ 58 ∧ Hid (BMap wq mb 123 r) ∧ Hid (Below mb w wq)) (fun v _ => (58 - intOf v).toNat)
      case atStart => exact ⟨48, rfl, by omega, by omega, HM.out, HB.out⟩
      case round =>
        clear HM HB
        obtain ⟨r, rfl, h2, h3, HM, HB⟩ := hrel
        by_cases hlt2 : r < 58
        · obtain ⟨n, sz, hn, hm⟩ := HM.out
          have hn2 : n ≤ 100 := by omega
          obtain ⟨w', sz', rr, m', t'⟩ := bput hm hn2 r 5 (by omega) (by omega) (by omega) (by omega)
          have c1 : r ≤ 57 := by omega
          have wr1 : IntKind.i32.wrap (r + 1) = r + 1 := by rw [IntKind.wrap_i32]; omega
          have NM : Hid (BMap w' mb 123 (r + 1)) := ⟨n + 1, sz', by omega, m'.cong (fun x _ => by
            unfold begF
            by_cases e : x = r
            · subst e; rw [if_pos rfl, if_pos (by omega)]
            · rw [if_neg e]
              by_cases e2 : 48 ≤ x ∧ x < r
              · rw [if_pos e2, if_pos (by omega)]
              · have e3 : ¬ (48 ≤ x ∧ x < r + 1) := by omega
                simp only [if_neg e2, if_neg e3])⟩
          have NB : Hid (Below mb w w') := HB.out.trans (t'.below (by have := HB.out.size; omega) (by simp))
          clear m' t' hm
          go_wp2
          go_roundw
          case rel => exact ⟨r + 1, rfl, by omega, by omega, NM.out, NB.out⟩
          case measure => simp [intOf]; omega
        · obtain rfl : r = 58 := by omega
          go_wp2
          go_ret
          exact ⟨mb, rfl, by omega, HM.out, HB.out⟩
/-- What is found in the map. -/
theorem begF_kind (x : Int) : (begF 123 58 x).getD (kd 0) = kd (kindOf x) := by
  by_cases e32 : x = 32
  · subst e32; rfl
  by_cases e35 : x = 35
  · subst e35; rfl
  by_cases e10 : x = 10
  · subst e10; rfl
  by_cases e61 : x = 61
  · subst e61; rfl
  by_cases e44 : x = 44
  · subst e44; rfl
  by_cases e58 : x = 58
  · subst e58; rfl
  by_cases e37 : x = 37
  · subst e37; rfl
  by_cases e64 : x = 64
  · subst e64; rfl
  by_cases e36 : x = 36
  · subst e36; rfl
  by_cases e45 : x = 45
  · subst e45; rfl
  have g1 : ¬ (x = 32 ∨ x = 35) := by omega
  have g2 : ¬ (x = 61 ∨ x = 44 ∨ x = 58) := by omega
  unfold begF kindOf
  simp only [if_neg e32, if_neg e35, if_neg e10, if_neg e61, if_neg e44, if_neg e58, if_neg e37, if_neg e64, if_neg e36, if_neg e45, if_neg g1, if_neg g2]
  by_cases d : 48 ≤ x ∧ x < 58
  · have l : ¬ (97 ≤ x ∧ x ≤ 122) := by omega
    have k : x = 45 ∨ (48 ≤ x ∧ x ≤ 57) := by omega
    simp only [if_pos d, if_neg l, if_pos k, Option.getD_some]
  · have k : ¬ (x = 45 ∨ (48 ≤ x ∧ x ≤ 57)) := by omega
    by_cases l : 97 ≤ x ∧ x < 123
    · have l2 : 97 ≤ x ∧ x ≤ 122 := by omega
      simp only [if_neg d, if_pos l, if_pos l2, Option.getD_some]
    · have l2 : ¬ (97 ≤ x ∧ x ≤ 122) := by omega
      simp only [if_neg d, if_neg l, if_neg l2, if_neg k, Option.getD_none]
set_option maxRecDepth 100000 in
theorem elem_inv {v : Value} {k : Int} {ps : List MemPlace} (h : plainElem (H := Unit) Tryz.prog 99 v = some (kd k, ps)) : v = .int .u8 k := by
  unfold plainElem at h
  rw [Tryz.underlying99] at h
  cases v with
  | int q a =>
    simp only at h
    split at h
    · rename_i hq
      simp only [Option.some.injEq, Prod.mk.injEq, kd] at h
      obtain ⟨h1, _⟩ := h
      injection h1 with h2
      injection h2 with _ h3
      rw [hq.1, h3]
    · cases h
  | _ => simp at h
/-- What a sign begins, looked up. -/
theorem blook {w : World} {mb : Nat} (h : BMap w mb 123 58) {x : Int} (x0 : 0 ≤ x) (x1 : x ≤ 2147483647) : (Instr.lookup 133 (.map (some mb)) (.int .i32 x) false).run Tryz.prog w = .ok (.int .u8 (kindOf x)) w := by
  obtain ⟨n, sz, _, hm⟩ := h
  have hw : (Lit.int .i32 x).wf = true := by simp [Lit.wf, IntKind.min, IntKind.max, IntKind.signed, IntKind.bits]; omega
  obtain ⟨v, ps, h1, h2⟩ := hm.look Tryz.underlying133 Tryz.underlying21 (z := .int .u8 0) (fun w => by kernel_rfl) (elem_kind 0 (by omega) (by omega)) hw
  rw [begF_kind] at h2
  rw [h1, elem_inv h2]
theorem BMap.kept {w w' : World} {mb : Nat} {a b : Int} {S : List Nat} (h : BMap w mb a b) (t : Tch S w w') (hn : ¬ mb ∈ S) : BMap w' mb a b := by
  obtain ⟨n, sz, h1, h2⟩ := h
  exact ⟨n, sz, h1, h2.kept t hn⟩
end Go.Proofs.YtmikkacillfdeaaGreatDoor
