/- What the calls of Find and Join of groups come to (items 0 to 19). -/
import Derived.Test.YtfokekciemofiaaGrpC
import Derived.Deep.QuietTactic
import Derived.BigQuiet
import Derived.RegionTactic
set_option linter.unusedSimpArgs false
set_option linter.unusedVariables false
namespace Go.Proofs.Ytfokekciemofiaa
open Go.RowKit

theorem gmapSome (mb : Nat) (w : World) : (binOp .eql 61 (.map (some mb)) (.map none)).run Try.prog w = .ok (.bool false) w := by kernel_rfl
theorem gmapNil (w : World) : (binOp .eql 61 (.map none) (.map none)).run Try.prog w = .ok (.bool true) w := by kernel_rfl
theorem wf20 {x : Int} (h0 : 0 ≤ x) (h1 : x < 20) : (Lit.int .i64 x).wf = true := WalkArith.wf_i64 (by omega)
/-- A look-up, whatever the world beside the map. -/
theorem glook {w : World} {mb sz : Nat} {p : Int → Option Int} (h : MapHas Try.prog 3 .i64 lessElem w mb sz sz (fun x => (p x).map ldat)) {x : Int} (h0 : 0 ≤ x) (h1 : x < 20) :
    (Instr.lookup 61 (.map (some mb)) (.int .i64 x) true).run Try.prog w = .ok (.tuple #[.agg #[.int .i64 ((p x).getD 0)], .bool (p x).isSome]) w := by
  obtain ⟨v, ps, r1, r2⟩ := h.lookOk Try.underlying61 Try.underlying3 Try.zeroValue105 (lessElem_mk 0) (wf20 h0 h1)
  have e : ((p x).map ldat).getD (ldat 0) = ldat ((p x).getD 0) := by cases p x <;> rfl
  simp only [e] at r2
  rw [lessElem_inv r2] at r1
  simpa using r1
/-- What Find leaves. -/
def Found (gb : Nat) (mo : Option Nat) (sz : Nat) (ρ : Int → Int) (w w' : World) : Prop := ∃ p, GAt w' gb mo sz p ∧ GInv p ρ ∧ Tch mo.toList w w'
set_option maxRecDepth 100000 in
set_option maxHeartbeats 2000000 in
theorem find_some (gb mb sz : Nat) (p : Int → Option Int) (ρ : Int → Int) (x : Int) (w : World) (h : GAt w gb (some mb) sz p) (hi : GInv p ρ) (h0 : 0 ≤ x) (h1 : x < 20) (hs : sz < maxLen) :
    Calls Try.prog 34 #[.pointer (some ⟨gb, 0, none⟩), .int .i64 x] w fun e w' => e = .returned (.int .i64 (ρ x)) ∧ Found gb (some mb) sz ρ w w' := by
  go_enter Try.func34, Try.ntmps34
  go_wp2
  go_loopw [1] (fun vx wr => ∃ x' p', vx = .int .i64 x' ∧ 0 ≤ x' ∧ x' < 20 ∧ ρ x' = ρ x ∧ GAt wr gb (some mb) sz p' ∧ GInv p' ρ ∧ Tch [mb] w wr) (fun vx _ => (intOf vx).toNat)
  case atStart => exact ⟨x, p, rfl, h0, h1, rfl, h, hi, Tch.refl _ _⟩
  case round =>
    obtain ⟨x', p', rfl, hx0, hx1, hxr, hg, hgi, ht⟩ := hrel
    obtain ⟨g1, g2⟩ := hg
    have hm : MapHas Try.prog 3 .i64 lessElem wr mb sz sz (fun x => (p' x).map ldat) := by
      rcases g2 with ⟨h, _⟩ | ⟨mb', h, hm⟩
      · cases h
      · cases h; exact hm
    have hl1 := glook hm hx0 hx1
    have c0 := cell_of_row wr gb 0 _ _ _ g1
    have f0 := frozen_of_row wr gb 0 _ _ g1
    simp only [List.getElem?_toArray, List.getElem?_cons_zero] at c0
    have hlt := lt_of_obj g1
    obtain ⟨es, ck, hmo⟩ := hm.obj
    have hmg : ¬ mb = gb := fun e => by subst e; rw [g1] at hmo; cases hmo
    have HR : Hid (ρ x' = ρ x) := hxr
    have HT := hid ht
    have HM := hid hm
    have HGI : Hid (GInv p' ρ) := hgi
    have HG1 := hid g1
    clear hxr ht g1 g2 hm hgi hmo
    cases hp : p' x' with
    | none =>
      rw [hp] at hl1
      simp only [Option.getD_none, Option.isSome_none] at hl1
      go_wp2_with (at_lookup; refine wpList_lookup_to _ rfl _ _ _ true rfl rfl rfl hl1 ?_)
      go_ret
      have tn : Tch [] wr (wr.alloc (.cells #[.int .i64 0] 105)) := (Tch.refl [] wr).alloc _
      have hx := (HGI.out x' hx0 hx1).1 hp
      exact ⟨by rw [← HR.out, hx]; rfl, p', ⟨tn.obj HG1.out (by simp), .inr ⟨mb, rfl, HM.out.kept tn (by simp)⟩⟩, HGI.out, HT.out.trans (tn.mono (by simp))⟩
    | some y =>
      rw [hp] at hl1
      simp only [Option.getD_some, Option.isSome_some] at hl1
      obtain ⟨y0, y1, y2⟩ := (HGI.out x' hx0 hx1).2 y hp
      have hl2 := glook (HM.out.kept (((Tch.refl [] wr).alloc (.cells #[.int .i64 y] 105)).drew) (by simp)) y0 (show y < 20 by omega)
      have hl3 := fun o => glook (HM.out.kept ((((Tch.refl [] wr).alloc (.cells #[.int .i64 y] 105)).alloc o).drew) (by simp)) y0 (show y < 20 by omega)
      cases hp2 : p' y with
      | none =>
        simp only [hp2, Option.getD_none, Option.isSome_none] at hl2 hl3
        have tn : Tch [] wr ((wr.alloc (.cells #[.int .i64 y] 105)).alloc (.cells #[.int .i64 0] 105)).drew := (((Tch.refl [] wr).alloc _).alloc _).drew
        have FIN := hid (show GAt ((wr.alloc (.cells #[.int .i64 y] 105)).alloc (.cells #[.int .i64 0] 105)).drew gb (some mb) sz p' ∧ Tch [mb] w ((wr.alloc (.cells #[.int .i64 y] 105)).alloc (.cells #[.int .i64 0] 105)).drew from
          ⟨⟨tn.obj HG1.out (by simp), .inr ⟨mb, rfl, HM.out.kept tn (by simp)⟩⟩, HT.out.trans (tn.mono (by simp))⟩)
        clear tn hp hp2
        go_wp2_with (at_lookup; refine wpList_lookup_to _ rfl _ _ _ true rfl rfl rfl hl1 ?_)
        go_region
        go_wp2
        go_roundw
        case rel => exact ⟨y, p', rfl, y0, by omega, y2.trans HR.out, FIN.out.1, HGI.out, FIN.out.2⟩
        case measure => simp [intOf]; omega
      | some z =>
        simp only [hp2, Option.getD_some, Option.isSome_some] at hl2 hl3
        obtain ⟨z0, z1, z2⟩ := (HGI.out y y0 (by omega)).2 z hp2
        have hsk := hid (ginv_skip HGI.out hx0 hx1 hp hp2)
        have tn : Tch [] wr ((wr.alloc (.cells #[.int .i64 y] 105)).alloc (.cells #[.int .i64 z] 105)).drew.drew := ((((Tch.refl [] wr).alloc _).alloc _).drew).drew
        obtain ⟨w2, st, m2, t2⟩ := (HM.out.kept tn (by simp)).store Try.underlying61 Try.underlying3 hs (lessElem_mk z) (wf20 hx0 hx1)
        have o1 : ((wr.alloc (.cells #[.int .i64 y] 105)).alloc (.cells #[.int .i64 z] 105)).heap[wr.heap.size]? = some (.cells #[.int .i64 y] 105 (0, 0)) := (Below.heap_alloc _ _ _ (by simp)).trans (heap_alloc_new wr _)
        have o2 : ((wr.alloc (.cells #[.int .i64 y] 105)).alloc (.cells #[.int .i64 z] 105)).heap[wr.heap.size + 1]? = some (.cells #[.int .i64 z] 105 (0, 0)) := by have := heap_alloc_new (wr.alloc (.cells #[.int .i64 y] 105)) (.cells #[.int .i64 z] 105); simpa using this
        have hmb := HM.out.lt
        have n1 : ¬ wr.heap.size ∈ [mb] := by simp; omega
        have n2 : ¬ wr.heap.size + 1 ∈ [mb] := by simp; omega
        have q1 := t2.obj (show ((wr.alloc (.cells #[.int .i64 y] 105)).alloc (.cells #[.int .i64 z] 105)).drew.drew.heap[wr.heap.size]? = _ from o1) n1
        have q2 := t2.obj (show ((wr.alloc (.cells #[.int .i64 y] 105)).alloc (.cells #[.int .i64 z] 105)).drew.drew.heap[wr.heap.size + 1]? = _ from o2) n2
        have e1 := cell_of_row w2 _ 0 _ _ _ q1
        have e2 := cell_of_row w2 _ 0 _ _ _ q2
        have e3 := frozen_of_row w2 _ 0 _ _ q1
        simp only [List.getElem?_toArray, List.getElem?_cons_zero] at e1 e2
        have t3 : Tch [mb] wr (w2.setCell ⟨wr.heap.size, 0, none⟩ (.int .i64 z)) := ((tn.mono (by simp)).trans t2).setCell (p := ⟨wr.heap.size, 0, none⟩) (.inr (Nat.le_refl _)) _
        have m3 : MapHas Try.prog 3 .i64 lessElem (w2.setCell ⟨wr.heap.size, 0, none⟩ (.int .i64 z)) mb sz sz (fun u => ((fun u => if u = x' then some z else p' u) u).map ldat) := by
          have m2' := m2.kept ((Tch.refl [wr.heap.size] w2).setCell (p := ⟨wr.heap.size, 0, none⟩) (.inl (by simp)) (.int .i64 z)) (by simp; omega)
          simp only [hp, Option.map_some, Option.isSome_some, if_true] at m2'
          refine m2'.tight.cong fun u hu => ?_
          by_cases e : u = x' <;> simp [e]
        have FIN := hid (show GAt (w2.setCell ⟨wr.heap.size, 0, none⟩ (.int .i64 z)) gb (some mb) sz (fun u => if u = x' then some z else p' u) ∧ Tch [mb] w (w2.setCell ⟨wr.heap.size, 0, none⟩ (.int .i64 z)) from
          ⟨⟨t3.obj HG1.out (by simp; exact fun e => hmg e.symm), .inr ⟨mb, rfl, m3⟩⟩, HT.out.trans t3⟩)
        clear tn hp hp2 t2 t3 m2 m3 o1 o2 q1 q2 n1 n2
        go_wp2_with (at_lookup; refine wpList_lookup_to _ rfl _ _ _ true rfl rfl rfl hl1 ?_)
        go_region
        go_wp2
        go_region
        go_wp2
        go_roundw
        case rel => exact ⟨z, _, rfl, z0, by omega, z2.trans (y2.trans HR.out), FIN.out.1, hsk.out, FIN.out.2⟩
        case measure => simp [intOf]; omega
set_option maxHeartbeats 1000000 in
theorem find_none (gb sz : Nat) (p : Int → Option Int) (ρ : Int → Int) (x : Int) (w : World) (h : GAt w gb none sz p) (hi : GInv p ρ) (h0 : 0 ≤ x) (h1 : x < 20) :
    Calls Try.prog 34 #[.pointer (some ⟨gb, 0, none⟩), .int .i64 x] w fun e w' => e = .returned (.int .i64 (ρ x)) ∧ Found gb none sz ρ w w' := by
  obtain ⟨g1, g2⟩ := h
  obtain rfl : p = fun _ => none := by
    rcases g2 with ⟨_, h⟩ | ⟨mb', h, _⟩
    · exact h
    · cases h
  have hx := (hi x h0 h1).1 rfl
  have tn : Tch [] w (w.alloc (.cells #[.int .i64 0] 105)) := (Tch.refl [] w).alloc _
  have FIN := hid (show Found gb none sz ρ w (w.alloc (.cells #[.int .i64 0] 105)) from ⟨fun _ => none, ⟨tn.obj g1 (by simp), .inl ⟨rfl, rfl⟩⟩, hi, tn⟩)
  have c0 := cell_of_row w gb 0 _ _ _ g1
  simp only [List.getElem?_toArray, List.getElem?_cons_zero] at c0
  have r1 := Maps.look_nil (P := Try.prog) (w := w) true (Maps.int_keyed Try.underlying3) Try.underlying61 (Try.zeroValue105 w) (Maps.keyOf_int_mk Try.underlying3 (wf20 h0 h1))
  simp only [if_true] at r1
  rw [hx]
  clear g1 g2 hi tn hx
  go_enter Try.func34, Try.ntmps34
  go_wp2
  refine wp_loop_rounds 1 ?_
  rw [rounds_succ]
  go_wp2_with (at_lookup; refine wpList_lookup_to _ rfl _ _ _ true rfl rfl rfl r1 ?_)
  go_ret
  exact ⟨rfl, FIN.out⟩
/-- **Find.** -/
theorem find_any (gb : Nat) (mo : Option Nat) (sz : Nat) (p : Int → Option Int) (ρ : Int → Int) (x : Int) (w : World) (h : GAt w gb mo sz p) (hi : GInv p ρ) (h0 : 0 ≤ x) (h1 : x < 20) (hs : sz < maxLen) :
    Calls Try.prog 34 #[.pointer (some ⟨gb, 0, none⟩), .int .i64 x] w fun e w' => e = .returned (.int .i64 (ρ x)) ∧ Found gb mo sz ρ w w' := by
  cases mo with
  | none => exact find_none gb sz p ρ x w h hi h0 h1
  | some mb => exact find_some gb mb sz p ρ x w h hi h0 h1 hs
set_option maxRecDepth 100000 in
set_option maxHeartbeats 1000000 in
theorem join_no (gb : Nat) (mo : Option Nat) (sz : Nat) (p : Int → Option Int) (ρ : Int → Int) (x y : Int) (w : World) (h : GAt w gb mo sz p) (hi : GInv p ρ) (x0 : 0 ≤ x) (x1 : x < 20) (y0 : 0 ≤ y) (y1 : y < 20) (hs : sz < maxLen) (he : ρ x = ρ y) :
    Calls Try.prog 33 #[.pointer (some ⟨gb, 0, none⟩), .int .i64 x, .int .i64 y] w fun e w' => e = .returned (.bool false) ∧ Found gb mo sz ρ w w' := by
  have f1 := find_any gb mo sz p ρ x w h hi x0 x1 hs
  have f2 : ∀ w1, Found gb mo sz ρ w w1 → Calls Try.prog 34 #[.pointer (some ⟨gb, 0, none⟩), .int .i64 y] w1 fun e w' => e = .returned (.int .i64 (ρ x)) ∧ Found gb mo sz ρ w w' := by
    rintro w1 ⟨p1, k1, k2, k3⟩
    rw [he]
    refine (find_any gb mo sz p1 ρ y w1 k1 k2 y0 y1 hs).mono ?_
    rintro e w2 ⟨rfl, p2, l1, l2, l3⟩
    exact ⟨rfl, p2, l1, l2, k3.trans l3⟩
  have F2 := hid f2
  clear f2 h hi he
  generalize ρ x = r at *
  go_enter Try.func33, Try.ntmps33
  go_wp2_with fail
  refine f1.mono ?_
  rintro e w1 ⟨rfl, k⟩
  have f3 := F2.out w1 k
  clear k
  go_wp2_with fail
  refine f3.mono ?_
  rintro e w2 ⟨rfl, k⟩
  have FIN := hid k
  clear k f1 f3
  go_wp2
  go_ret
  exact ⟨rfl, FIN.out⟩
/-- What Join leaves. -/
def Joined (gb : Nat) (mo : Option Nat) (sz : Nat) (ρ : Int → Int) (w w' : World) : Prop := ∃ p mo', GAt w' gb mo' sz p ∧ GInv p ρ ∧ Tch (gb :: mo.toList) w w' ∧ (∀ b ∈ mo'.toList, b ∈ mo.toList ∨ w.heap.size ≤ b)
theorem gstore {w : World} {mb sz : Nat} {p : Int → Option Int} (h : MapHas Try.prog 3 .i64 lessElem w mb sz sz (fun x => (p x).map ldat)) {x y : Int} (h0 : 0 ≤ x) (h1 : x < 20) (hs : sz < maxLen) (hn : p x = none) :
    ∃ w', (Instr.mapUpdate 61 (.map (some mb)) (.int .i64 x) (.agg #[.int .i64 y])).run Try.prog w = .ok () w' ∧ MapHas Try.prog 3 .i64 lessElem w' mb (sz + 1) (sz + 1) (fun u => ((fun u => if u = x then some y else p u) u).map ldat) ∧ Tch [mb] w w' := by
  obtain ⟨w3, st, m3, t3⟩ := h.store Try.underlying61 Try.underlying3 hs (lessElem_mk y) (wf20 h0 h1)
  simp only [hn, Option.map_none, Option.isSome_none, Bool.false_eq_true, if_false] at m3
  refine ⟨w3, st, m3.cong fun u hu => ?_, t3⟩
  by_cases e : u = x <;> simp [e]
set_option maxRecDepth 100000 in
set_option maxHeartbeats 1000000 in
theorem join_yes (gb : Nat) (mo : Option Nat) (sz : Nat) (p : Int → Option Int) (ρ : Int → Int) (x y : Int) (w : World) (h : GAt w gb mo sz p) (hi : GInv p ρ) (x0 : 0 ≤ x) (x1 : x < 20) (y0 : 0 ≤ y) (y1 : y < 20) (hs : sz < maxLen) (he : ¬ ρ x = ρ y) :
    Calls Try.prog 33 #[.pointer (some ⟨gb, 0, none⟩), .int .i64 x, .int .i64 y] w fun e w' => e = .returned (.bool true) ∧ ∃ sz', sz' ≤ sz + 1 ∧ Joined gb mo sz' (fun i => if ρ i = ρ x ∨ ρ i = ρ y then min (ρ x) (ρ y) else ρ i) w w' := by
  have f1 := find_any gb mo sz p ρ x w h hi x0 x1 hs
  have f2 : ∀ w1, Found gb mo sz ρ w w1 → Calls Try.prog 34 #[.pointer (some ⟨gb, 0, none⟩), .int .i64 y] w1 fun e w' => e = .returned (.int .i64 (ρ y)) ∧ Found gb mo sz ρ w w' := by
    rintro w1 ⟨p1, k1, k2, k3⟩
    refine (find_any gb mo sz p1 ρ y w1 k1 k2 y0 y1 hs).mono ?_
    rintro e w2 ⟨rfl, p2, l1, l2, l3⟩
    exact ⟨rfl, p2, l1, l2, k3.trans l3⟩
  obtain ⟨_, a2, a3, _⟩ := ginv_find hi x0 x1
  obtain ⟨_, b2, b3, _⟩ := ginv_find hi y0 y1
  have F2 := hid f2
  clear f2 h hi
  have GJ := hid (fun p2 (h : GInv p2 ρ) => ginv_join h x0 x1 y0 y1 he)
  have GN := hid (fun p2 (h : GInv p2 ρ) => (⟨(ginv_find h x0 x1).1, (ginv_find h y0 y1).1⟩ : p2 (ρ x) = none ∧ p2 (ρ y) = none))
  generalize (fun i => if ρ i = ρ x ∨ ρ i = ρ y then min (ρ x) (ρ y) else ρ i) = ρ' at GJ ⊢
  generalize hrx : ρ x = a at *
  generalize hry : ρ y = b at *
  clear hrx hry
  go_enter Try.func33, Try.ntmps33
  go_wp2_with fail
  refine f1.mono ?_
  rintro e w1 ⟨rfl, k⟩
  have f3 := F2.out w1 k
  clear k
  go_wp2_with fail
  refine f3.mono ?_
  rintro e w2 ⟨rfl, p2, k1, k2, k3⟩
  obtain ⟨g1, g2⟩ := k1
  have c0 := cell_of_row w2 gb 0 _ _ _ g1
  have f0 := frozen_of_row w2 gb 0 _ _ g1
  simp only [List.getElem?_toArray, List.getElem?_cons_zero] at c0
  have hlt := lt_of_obj g1
  have gi := GJ.out p2 k2
  obtain ⟨na, nb⟩ := GN.out p2 k2
  clear f1 f3 F2 GJ GN
  have hcase : (a < b ∧ max a b = b ∧ min a b = a) ∨ (b < a ∧ max a b = a ∧ min a b = b) := by omega
  cases mo with
  | some mb =>
    have hm : MapHas Try.prog 3 .i64 lessElem w2 mb sz sz (fun x => (p2 x).map ldat) := by
      rcases g2 with ⟨h, _⟩ | ⟨mb', h, hm⟩
      · cases h
      · cases h; exact hm
    have hms := gmapSome mb
    obtain ⟨es, ck, hmo⟩ := hm.obj
    have hmg : ¬ gb = mb := fun e => by subst e; rw [g1] at hmo; cases hmo
    rcases hcase with ⟨hab, e1, e2⟩ | ⟨hab, e1, e2⟩
    · rw [e1, e2] at gi
      obtain ⟨w3, st, m3, t3⟩ := gstore (y := a) hm b2 (show b < 20 by omega) hs nb
      have FIN := hid (show ∃ sz', sz' ≤ sz + 1 ∧ Joined gb (some mb) sz' ρ' w w3 from ⟨sz + 1, Nat.le_refl _, _, some mb, ⟨t3.obj g1 (by simpa using hmg), .inr ⟨mb, rfl, m3⟩⟩, gi, (k3.mono (by simp)).trans (t3.mono (by simp)), fun y hy => .inl hy⟩)
      clear m3 t3 gi hm g1 g2 k2 k3 hmo na nb e1 e2
      go_wp2_with (at_mapUpdate; refine wpList_update_to _ rfl _ _ _ _ rfl rfl rfl rfl st ?_)
      go_ret
      exact ⟨rfl, FIN.out⟩
    · rw [e1, e2] at gi
      obtain ⟨w3, st, m3, t3⟩ := gstore (y := b) hm a2 (show a < 20 by omega) hs na
      have FIN := hid (show ∃ sz', sz' ≤ sz + 1 ∧ Joined gb (some mb) sz' ρ' w w3 from ⟨sz + 1, Nat.le_refl _, _, some mb, ⟨t3.obj g1 (by simpa using hmg), .inr ⟨mb, rfl, m3⟩⟩, gi, (k3.mono (by simp)).trans (t3.mono (by simp)), fun y hy => .inl hy⟩)
      clear m3 t3 gi hm g1 g2 k2 k3 hmo na nb e1 e2
      go_wp2_with (at_mapUpdate; refine wpList_update_to _ rfl _ _ _ _ rfl rfl rfl rfl st ?_)
      go_ret
      exact ⟨rfl, FIN.out⟩
  | none =>
    obtain rfl : p2 = fun _ => none := by
      rcases g2 with ⟨_, h⟩ | ⟨mb', h, _⟩
      · exact h
      · cases h
    have hms := gmapNil
    have hmm := @run_makeMap Try.prog
    obtain ⟨W0, hW0⟩ : ∃ W0, W0 = w2.setCell ⟨gb, 0, none⟩ (.map (some w2.heap.size)) := ⟨_, rfl⟩
    have z0 : W0.heap.size = w2.heap.size := by rw [hW0]; simp [World.setCell]
    have q0 : W0.heap[gb]? = some (.cells #[.map (some w2.heap.size)] 63 (0, 0)) := by rw [hW0]; exact heap_setCell_same w2 gb 0 _ _ _ g1
    have t0 : Tch [gb] w2 W0 := by rw [hW0]; exact (Tch.refl _ w2).setCell (p := ⟨gb, 0, none⟩) (.inl (by simp)) _
    have m1 := mapHas_made (P := Try.prog) (k := 3) (q := .i64) (R := lessElem) W0
    rw [z0] at m1
    have t1 : Tch [gb] w2 (W0.alloc (.map #[] 0)) := t0.alloc _
    have q1 : (W0.alloc (.map #[] 0)).heap[gb]? = some (.cells #[.map (some w2.heap.size)] 63 (0, 0)) := (Below.heap_alloc _ _ gb (by omega)).trans q0
    have hz2 := k3.size
    rcases hcase with ⟨hab, e1, e2⟩ | ⟨hab, e1, e2⟩
    · rw [e1, e2] at gi
      obtain ⟨w3, st, m3, t3⟩ := gstore (p := fun _ => none) (y := a) m1 b2 (show b < 20 by omega) (by decide) rfl
      have FIN := hid (show ∃ sz', sz' ≤ sz + 1 ∧ Joined gb none sz' ρ' w w3 from ⟨0 + 1, by omega, _, some w2.heap.size, ⟨t3.obj q1 (by simp; omega), .inr ⟨_, rfl, m3⟩⟩, gi, ((k3.mono (by simp)).trans (t1.mono (by simp))).trans2 t3 (fun y hy => by simp at hy; subst hy; exact .inr hz2), fun y hy => by simp at hy; subst hy; exact .inr hz2⟩)
      rw [hW0] at st
      clear m3 t3 gi g1 g2 k2 k3 na nb e1 e2 m1 t1 q1 q0 t0 z0 hW0
      go_wp2_with (at_mapUpdate; refine wpList_update_to _ rfl _ _ _ _ rfl rfl rfl rfl st ?_)
      go_ret
      exact ⟨rfl, FIN.out⟩
    · rw [e1, e2] at gi
      obtain ⟨w3, st, m3, t3⟩ := gstore (p := fun _ => none) (y := b) m1 a2 (show a < 20 by omega) (by decide) rfl
      have FIN := hid (show ∃ sz', sz' ≤ sz + 1 ∧ Joined gb none sz' ρ' w w3 from ⟨0 + 1, by omega, _, some w2.heap.size, ⟨t3.obj q1 (by simp; omega), .inr ⟨_, rfl, m3⟩⟩, gi, ((k3.mono (by simp)).trans (t1.mono (by simp))).trans2 t3 (fun y hy => by simp at hy; subst hy; exact .inr hz2), fun y hy => by simp at hy; subst hy; exact .inr hz2⟩)
      rw [hW0] at st
      clear m3 t3 gi g1 g2 k2 k3 na nb e1 e2 m1 t1 q1 q0 t0 z0 hW0
      go_wp2_with (at_mapUpdate; refine wpList_update_to _ rfl _ _ _ _ rfl rfl rfl rfl st ?_)
      go_ret
      exact ⟨rfl, FIN.out⟩
end Go.Proofs.Ytfokekciemofiaa
