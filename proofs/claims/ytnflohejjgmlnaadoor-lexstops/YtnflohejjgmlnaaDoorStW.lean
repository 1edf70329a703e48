/- LexStops, walked. -/
import Derived.Test.YtnflohejjgmlnaaDoorStP
import Derived.BigQuiet
import Derived.Deep.QuietTactic
set_option linter.unusedSimpArgs false
set_option linter.unusedVariables false
namespace Go.Proofs.YtnflohejjgmlnaaDoor
open Go.RowKit Go.Sort
attribute [local go_sem] Oper.semAt_some

/-- What LexStops keeps while it looks at tokens. -/
structure StI (W0 : World) (mb K : Nat) (evs pre : List Ev) (W : World) : Prop where
  pfx : pre <+: evs
  few : pre.length ≤ K
  many : Boxed W mb 3 (.int .i64 pre.length)
  t : Tch [mb] W0 W
structure StX (W0 : World) (mb K : Nat) (evs pre : List Ev) (W : World) : Prop where
  few : pre.length = K + 1
  many : Boxed W mb 3 (.int .i64 pre.length)
  t : Tch [mb] W0 W
theorem Tch.own {W0 W1 W2 : World} {mb : Nat} {row : Option Nat} (t : Tch [mb] W0 W1) (g : W1.grownBy W2 row) (hr : ∀ r, row = some r → W0.heap.size ≤ r ∧ ∃ o : Obj, W1.heap[r]? = some o ∧ o.isCells = false) : Tch [mb] W0 W2 :=
  ⟨g.os.trans t.os, g.tape.trans t.tape, g.output.trans t.output, Nat.le_trans t.size g.size, fun k hk hn => (g.block k (Nat.lt_of_lt_of_le hk t.size) (fun e => by have := (hr k e.symm).1; omega)).trans (t.block k hk hn)⟩
theorem row_tch {W W' : World} {S : List Nat} {base : Nat} {e : TypeId} {sz n m c g : Nat} {xs : List Value} (h : W.ownsRow base e sz (.slice (some ⟨g, 0, none⟩) m c) n xs) (t : Tch S W W') (hg : ¬ g ∈ S) : W'.ownsRow base e sz (.slice (some ⟨g, 0, none⟩) m c) n xs := by
  obtain ⟨h0, h | ⟨g', cap, cur, h1, h2, h3, h4⟩⟩ := h
  · exact ⟨h0, .inl h⟩
  · cases h1
    exact ⟨h0, .inr ⟨_, _, cur, rfl, h2, t.obj h3 hg, h4⟩⟩
set_option maxRecDepth 100000 in
set_option maxHeartbeats 8000000 in
theorem stops_in (ps : List PcM) (v : Value) (kb : Int) (w : World) (hE : Env w) (hp : PcsAt w v ps) (wp : ∀ p ∈ ps, PcWf p) (k0 : 0 ≤ kb) (k1 : kb ≤ 255) (n1 : ps.length ≤ 40) :
    Calls Tryd.prog 5 #[v, .int .u8 kb] w fun e w' => e = .returned (.bool true) ∧ Below w.heap.size w w' := by
  obtain ⟨a, c, rfl, hml⟩ := hp.shape
  have g1 : ¬ (40 : Int) < (ps.length : Int) := by omega
  have bA : Below w.heap.size w ((w.alloc (.cells #[.int .u8 kb] 5)).alloc (.cells #[.bool false] 4)) := ((Below.refl _ w).alloc (Nat.le_refl _) _).alloc (by simp) _
  have HA := hid (awake_any _ (hE.below bA))
  have HE := hid hE
  have HP := hid hp
  have HW := hid wp
  obtain ⟨K, hK⟩ : ∃ K : Nat, kb.tmod 20 = (K : Int) := ⟨(kb.tmod 20).toNat, by have := Int.tmod_eq_emod_of_nonneg (a := kb) (b := 20) k0; omega⟩
  have hK20 : K < 20 := by have := Int.tmod_eq_emod_of_nonneg (a := kb) (b := 20) k0; omega
  clear hp wp hE
  refine calls_marks Tryd.func5 rfl ?_
  simp only [Tryd.ntmps5, List.size_toArray, List.length_cons, List.length_nil, Nat.reduceAdd, Nat.reduceSub, Array.replicate_succ, Array.replicate_zero, List.push_toArray, List.append_toArray, List.nil_append, List.cons_append]
  go_wp2_with fail
  refine HA.out.mono ?_
  rintro e w1 ⟨rfl, b1⟩
  have o3 : w1.heap[w.heap.size]? = some (.cells #[.int .u8 kb] 5 (0, 0)) := (b1.block _ (by simp; omega)).trans ((Below.heap_alloc _ _ _ (by simp)).trans (heap_alloc_new w _))
  have o4 : w1.heap[w.heap.size + 1]? = some (.cells #[.bool false] 4 (0, 0)) := (b1.block _ (by simp)).trans (by have := heap_alloc_new (w.alloc (.cells #[.int .u8 kb] 5)) (.cells #[.bool false] 4); simpa using this)
  have B1 := hid (bA.trans (b1.mono (by simp; omega)))
  have HP1 : Hid (PcsAt w1 _ ps) := HP.out.below B1.out
  have O3 := hid o3
  have O4 := hid o4
  have l4 : w.heap.size + 1 < w1.heap.size := lt_of_obj o4
  clear b1 HA HP bA o3 o4
  go_wp2_with fail
  go_loopw [5, 26] (fun v5 v26 wr => ∃ (k : Nat) (l : List UInt8) (ws : List Ev), v5 = .string (bytesOf l) ∧ v26 = .int .i64 k ∧ k ≤ ps.length ∧ (bytesOf l).size ≤ 23 * k ∧ Hid (Toks l ws) ∧ Hid (Below w1.heap.size w1 wr)) (fun _ v26 _ => ps.length - (intOf v26).toNat)
  case atStart => exact ⟨0, [], [], rfl, rfl, Nat.zero_le _, by decide, Toks.nil, Below.refl _ _⟩
  case round =>
    obtain ⟨k, l, ws, rfl, rfl, hk, hl, HT, HB⟩ := hrel
    by_cases hlt : k < ps.length
    · obtain ⟨b, o, c2, he⟩ := HP1.out.ptr (by omega)
      obtain ⟨rfl, rfl⟩ : a = some ⟨b, o, none⟩ ∧ c = c2 := by cases he; exact ⟨rfl, rfl⟩
      have hx : ps[k]? = some ps[k] := List.getElem?_eq_getElem hlt
      obtain ⟨q0, q1, q2⟩ := HP1.out.at hx
      have hwf := HW.out _ (List.getElem_mem hlt)
      generalize ps[k] = x at *
      have c0 := below_cell HB.out rfl q0
      have c1 := below_cell HB.out rfl q1
      have c2 := below_cell HB.out rfl q2
      have hlt2 : (k : Int) < (ps.length : Int) := by omega
      have TK := hid (fun W => ltoken_any x.k x.g x.n hwf.k.1 hwf.k.2 hwf.n.1 hwf.n.2 W)
      clear q0 q1 q2 hx he hwf
      go_wp2_with fail
      refine (TK.out _).mono ?_
      rintro e w2 ⟨x', kk, t, m, rfl, hpr, bl⟩
      have HPR := hid hpr
      have BL := hid (HB.out.trans (((Below.refl _ wr).alloc (Nat.le_refl _) _).mono HB.out.size |>.trans (bl.mono (by simp; have := HB.out.size; omega))))
      have hxl : (bytesOf x').size ≤ 22 := by rw [bytes_size]; exact hpr.2
      have z1 : (⟨#[32]⟩ : ByteArray).size = 1 := rfl
      have z2 : (bytesOf x').size + (⟨#[32]⟩ : ByteArray).size ≤ 9223372036854775807 := by omega
      have z4 : (bytesOf x' ++ ⟨#[32]⟩).size = (bytesOf x').size + 1 := by rw [ByteArray.size_append]; rfl
      have z5 : (bytesOf l).size + (bytesOf x' ++ ⟨#[32]⟩).size ≤ 9223372036854775807 := by omega
      clear bl hpr TK
      simp only [tokA]
      go_wp2_with fail
      go_roundw
      case rel => exact ⟨k + 1, l ++ (x' ++ [32]), _, by rw [← bytes_app, ← bytes_app]; rfl, rfl, by omega, by rw [← bytes_app, ByteArray.size_append, ← bytes_app, ByteArray.size_append]; simp only [bytes_size, List.length_singleton] at *; omega, HT.out.app (toks_piece HPR.out), (BL.out.alloc BL.out.size _)⟩
      case measure => simp [intOf]; omega
    · obtain rfl : k = ps.length := by omega
      have hlt2 : ¬ (ps.length : Int) < (ps.length : Int) := by omega
      have hls : (bytesOf l).size ≤ 920 := by omega
      have S1 := hid (fun W (hE : Env W) => split_ok l (by rw [← bytes_size]; omega) HT.out.ok W hE)
      go_wp2_with fail
      refine (S1.out _ (HE.out.below (B1.out.trans (HB.out.mono B1.out.size)))).mono ?_
      rintro e w2 ⟨v1, rfl, hr1, b2⟩
      have b12 := HB.out.trans (b2.mono HB.out.size)
      have R1 := hid hr1
      have B2 := hid (B1.out.trans (b12.mono B1.out.size))
      have O3b := hid ((b12.block _ (by omega)).trans O3.out)
      have O4b := hid ((b12.block _ (by omega)).trans O4.out)
      obtain ⟨g9, c9, rfl⟩ := row_some hr1 (by rw [HT.out.all]; simp)
      have ALL := hid (all_list l (by rw [← bytes_size]; omega))
      have OK := hid HT.out.ok
      generalize hev : evT 0 l = evs at *
      have hne : 0 < evs.length := by rw [← hev, HT.out.all]; simp
      clear b2 hr1 S1 HB B1 HT O3 O4 HP1 HW hev hlt b12
      go_wp2_with (go_at_call 11; refine (tokens_any _ _).mono ?_; rintro e w6 ⟨rfl, rfl⟩)
      simp only [Nat.add_assoc, Nat.reduceAdd]
      have z0 : (((w2.alloc (.cells #[.slice (some ⟨g9, 0, none⟩) evs.length c9] 24)).alloc (.cells #[.int .i64 0] 3)).alloc (.cells #[.string (bytesOf l)] 9)).heap.size = w2.heap.size + 3 := by simp
      have b0 : Below w2.heap.size w2 (((w2.alloc (.cells #[.slice (some ⟨g9, 0, none⟩) evs.length c9] 24)).alloc (.cells #[.int .i64 0] 3)).alloc (.cells #[.string (bytesOf l)] 9)) := (((Below.refl _ w2).alloc (Nat.le_refl _) _).alloc (by simp) _).alloc (by simp <;> omega) _
      have oA : (((w2.alloc (.cells #[.slice (some ⟨g9, 0, none⟩) evs.length c9] 24)).alloc (.cells #[.int .i64 0] 3)).alloc (.cells #[.string (bytesOf l)] 9)).heap[w2.heap.size]? = some (.cells #[.slice (some ⟨g9, 0, none⟩) evs.length c9] 24 (0, 0)) := (Below.heap_alloc _ _ _ (by simp <;> omega)).trans ((Below.heap_alloc _ _ _ (by simp)).trans (heap_alloc_new w2 _))
      have oM : (((w2.alloc (.cells #[.slice (some ⟨g9, 0, none⟩) evs.length c9] 24)).alloc (.cells #[.int .i64 0] 3)).alloc (.cells #[.string (bytesOf l)] 9)).heap[w2.heap.size + 1]? = some (.cells #[.int .i64 0] 3 (0, 0)) := (Below.heap_alloc _ _ _ (by simp)).trans (by have := heap_alloc_new (w2.alloc (.cells #[.slice (some ⟨g9, 0, none⟩) evs.length c9] 24)) (.cells #[.int .i64 0] 3); simpa using this)
      have oS : (((w2.alloc (.cells #[.slice (some ⟨g9, 0, none⟩) evs.length c9] 24)).alloc (.cells #[.int .i64 0] 3)).alloc (.cells #[.string (bytesOf l)] 9)).heap[w2.heap.size + 2]? = some (.cells #[.string (bytesOf l)] 9 (0, 0)) := by have := heap_alloc_new ((w2.alloc (.cells #[.slice (some ⟨g9, 0, none⟩) evs.length c9] 24)).alloc (.cells #[.int .i64 0] 3)) (.cells #[.string (bytesOf l)] 9); simpa using this
      generalize (((w2.alloc (.cells #[.slice (some ⟨g9, 0, none⟩) evs.length c9] 24)).alloc (.cells #[.int .i64 0] 3)).alloc (.cells #[.string (bytesOf l)] 9)) = W0 at *
      have zge : w2.heap.size + 3 ≤ W0.heap.size := by omega
      have zle : W0.heap.size ≤ w2.heap.size + 3 := by omega
      clear z0
      have lw2 : w.heap.size + 1 < w2.heap.size := by have := lt_of_obj O4b.out; omega
      have o3 := (b0.block _ (by omega)).trans O3b.out
      have o4 := (b0.block _ (by omega)).trans O4b.out
      have R0 := hid (row_keep R1.out b0)
      have lg9 : g9 < w2.heap.size := cell_lt (row_tok R1.out (List.getElem?_eq_getElem hne)).1
      have hI0 : StI W0 (w2.heap.size + 1) K evs [] W0 := ⟨List.nil_prefix, Nat.zero_le _, oM, Tch.refl _ _⟩
      have hsq := tokens_stopsp 4 (by decide) (w2.heap.size + 2) w.heap.size (bytesOf l) W0 (by omega) (fun W' h => HE.out.below (B2.out.trans ((b0.mono B2.out.size).trans h))) (by rw [cell_of_row _ _ 0 _ _ _ oS]; rfl)
      rw [ALL.out] at hsq
      refine (wpIn_wide (n := 5)).1 ?_
      refine wpIn_rangeB (fun x tb t => (((t.setIfInBounds 48 (.agg #[.int .u8 x.k, .int .i64 x.p, .string (bytesOf x.t), .int .i64 x.n])).setIfInBounds 49 (.int .i64 x.e)).setIfInBounds 14 (.pointer (some ⟨tb, 0, none⟩))).setIfInBounds 15 (.int .i64 x.e))
        (fun x tb W => W.heap[tb]? = some (.cells #[.int .u8 x.k, .int .i64 x.p, .string (bytesOf x.t), .int .i64 x.n] 29 (0, 0)) ∧ W0.heap.size ≤ tb)
        rfl (by decide) (gf := 15) (lb := #[.pointer (some ⟨w2.heap.size + 2, 0, none⟩)]) rfl trivial (enters_of Tryd.func15 (by kernel_rfl) rfl)
        hsq kp_t (kp_b (by omega)) (Below.refl _ _) (fun _ => rfl)
        (StI W0 (w2.heap.size + 1) K evs) (fun c ys W => (c = .ret ∧ ¬ ys <+: evs) ∨ (c = .exit 2 ∧ StX W0 (w2.heap.size + 1) K evs ys W))
        (fun s W1 W2 row h g hr => ⟨h.pfx, h.few, grown_cells g hr h.many, h.t.own g hr⟩)
        (fun c s W1 W2 row h g hr => h.imp id fun h => ⟨h.1, h.2.few, grown_cells g hr h.2.many, h.2.t.own g hr⟩)
        hI0 (fun x tb _ W1 W2 row h g hr => ⟨grown_cells g hr h.1, h.2⟩) ?assign ?body ?done ?stop
      case assign =>
        intro lp pre x W K' hI hK'
        have hsz := hI.t.size
        have FIN := hid (hK' W.heap.size _ ((KeepsOthers.alloc W (.cells #[.int .u8 x.k, .int .i64 x.p, .string (bytesOf x.t), .int .i64 x.n] 29)).from _) ⟨(Below.refl _ W).alloc (by omega) _, (KeepsOthers.alloc W _).walks⟩ ⟨hI.pfx, hI.few, hI.many.alloc _, hI.t.alloc _⟩ ⟨heap_alloc_new W _, hsz⟩)
        clear hK' hI
        simp only [Ev.enc, tokA] at *
        gi_wp2_with fail
        simp only [List.setIfInBounds_toArray, List.set_cons_succ, List.set_cons_zero] at FIN
        exact FIN.out
      case body =>
        rintro lp pre x tb W hI ⟨ht, htb⟩ hlt
        obtain ⟨hpf, hfew, hmany, hT⟩ := hI
        simp only [List.setIfInBounds_toArray, List.set_cons_succ, List.set_cons_zero]
        have hy : evs[pre.length]? = some evs[pre.length] := List.getElem?_eq_getElem hlt
        have hye := OK.out _ (List.getElem_mem hlt)
        generalize evs[pre.length] = y at *
        have cA := cell_of_row _ _ 0 _ _ _ (hT.obj oA (by simp))
        have cK := cell_of_row _ _ 0 _ _ _ (hT.obj o3 (by simp; omega))
        have cR := cell_of_row _ _ 0 _ _ _ (hT.obj o4 (by simp; omega))
        have fR := frozen_of_row _ _ 0 _ _ (hT.obj o4 (by simp; omega))
        have cM := hmany.cell
        have fM := hmany.frozen
        have q0 := cell_of_row _ _ 0 _ _ _ ht
        have q1 := cell_of_row _ _ 1 _ _ _ ht
        have q2 := cell_of_row _ _ 2 _ _ _ ht
        have q3 := cell_of_row _ _ 3 _ _ _ ht
        simp only [List.getElem?_toArray, List.getElem?_cons_zero, List.getElem?_cons_succ] at q0 q1 q2 q3 cA cK cR
        obtain ⟨p0, p1, p2, p3⟩ := row_tok (row_tch R0.out hT (by simp; omega)) hy
        have mixed : Tryd.prog.follows .mixedOrders = true := by kernel_rfl
        have hlt2 : (pre.length : Int) < (evs.length : Int) := by omega
        have hle : pre.length ≤ 19 := by omega
        have HM := hid hmany
        have HT2 := hid hT
        have HY := hid hy
        have HPF := hid hpf
        have KF0 : Hid (∀ u v, KeepsFrom W0.heap.size W (W.drew.setCell ⟨u, 0, none⟩ v)) := fun u v => ⟨(KeepsOthers.setCell W.drew ⟨u, 0, none⟩ v).size, fun k o _ hk ho => (KeepsOthers.setCell W.drew ⟨u, 0, none⟩ v).same k o hk ho⟩
        clear ht hmany hT hy hpf
        by_cases hxe : x.e = 0
        · cases heq : eqT x y with
          | true =>
            obtain rfl := (eqT_iff hxe hye).1 heq
            have hnq := neq_tok x.k x.p x.n (bytesOf x.t)
            have heb : (x.e == 0) = true := by simp [hxe]
            have hnb : (x.e != 0) = false := by simp [hxe]
            clear heq hxe hye
            gi_upto_region 17 with fail
            gi_cut [59] from 999 (fun v wx => v = .bool false ∧ wx = W.drew)
            case first =>
              gi_region_with_o fail
              all_goals (gi_wp2_with fail; gi_meet; exact ⟨rfl, rfl⟩)
            case rest =>
              obtain ⟨rfl, rfl⟩ := hcut
              obtain ⟨m, hm⟩ : ∃ m, m = pre.length + 1 := ⟨_, rfl⟩
              have hmi : (pre.length : Int) + 1 = (m : Int) := by omega
              have nb : ¬ w2.heap.size + 1 = w.heap.size := by omega
              have BX : Hid (Boxed (W.drew.setCell ⟨w2.heap.size + 1, 0, none⟩ (.int .i64 m)) (w2.heap.size + 1) 3 (.int .i64 m)) := (show Boxed W.drew _ _ _ from HM.out).set _
              have TX : Hid (Tch [w2.heap.size + 1] W0 (W.drew.setCell ⟨w2.heap.size + 1, 0, none⟩ (.int .i64 m))) := (HT2.out.drew).setCell (.inl (by simp)) _
              have BW : Hid (Kp w.heap.size W (W.drew.setCell ⟨w2.heap.size + 1, 0, none⟩ (.int .i64 m))) := ⟨(((Tch.refl [w2.heap.size + 1] W).drew).setCell (.inl (by simp)) _).below (by have := HT2.out.size; omega) (by simp; omega), ⟨(KF0.out _ _).size, fun k o hk ho => (KeepsOthers.setCell W.drew ⟨w2.heap.size + 1, 0, none⟩ (.int .i64 m)).same k o hk (Obj.not_cells_of_walk ho)⟩⟩
              have NP := hid (prefix_next HPF.out HY.out)
              have hlen : (pre ++ [x]).length = m := by rw [List.length_append, List.length_singleton]; exact hm.symm
              have KF := hid (KF0.out (w2.heap.size + 1) (.int .i64 m))
              have HL := hid hlen
              have HMM := hid hm
              clear hlen hm
              by_cases hbr : K < m
              · have hbi : (K : Int) < (m : Int) := by omega
                gi_wp2_with fail
                refine ⟨KF.out, .inr ⟨by first | rfl | trivial, ?_, ?_, TX.out⟩⟩
                · rw [HL.out]; have := HMM.out; omega
                · rw [HL.out]; exact BX.out
              · have hbi : ¬ (K : Int) < (m : Int) := by omega
                gi_wp2_with fail
                refine ⟨KF.out, BW.out, NP.out, ?_, ?_, TX.out⟩
                · rw [HL.out]; omega
                · rw [HL.out]; exact BX.out
          | false =>
            have hnq := run_neq_tok x y
            rw [heq] at hnq
            unfold Ev.val at hnq
            have heb : (x.e == 0) = true := by simp [hxe]
            have hnb : (x.e != 0) = false := by simp [hxe]
            have NP : Hid (¬ pre ++ [x] <+: evs) := fun h => by
              have := prefix_at h
              rw [HY.out] at this
              cases this
              rw [(eqT_iff hxe hxe).2 rfl] at heq
              cases heq
            clear hxe hye
            have cRd : W.drew.cell? ⟨w.heap.size + 1, 0, none⟩ = some (.bool false) := cR
            have fRd : W.drew.frozen? ⟨w.heap.size + 1, 0, none⟩ = false := fR
            have KF := hid (KF0.out (w.heap.size + 1) (.bool false))
            gi_upto_region 17 with fail
            gi_cut [59] from 999 (fun v wx => v = .bool true ∧ wx = W.drew)
            case first =>
              gi_region_with_o fail
              all_goals (gi_wp2_with fail; gi_meet; exact ⟨rfl, rfl⟩)
            case rest =>
              obtain ⟨rfl, rfl⟩ := hcut
              gi_wp2_with fail
              exact ⟨KF.out, .inl ⟨by first | rfl | trivial, NP.out⟩⟩
        · have heb : (x.e == 0) = false := by rw [beq_eq_false_iff_ne]; exact hxe
          have hnb : (x.e != 0) = true := by rw [bne_iff_ne]; exact hxe
          have NP : Hid (¬ pre ++ [x] <+: evs) := fun h => by
            have := prefix_at h
            rw [HY.out] at this
            cases this
            exact hxe hye
          have cRd : W.drew.cell? ⟨w.heap.size + 1, 0, none⟩ = some (.bool false) := cR
          have fRd : W.drew.frozen? ⟨w.heap.size + 1, 0, none⟩ = false := fR
          have KF := hid (KF0.out (w.heap.size + 1) (.bool false))
          gi_upto_region 17 with fail
          gi_cut [59] from 999 (fun v wx => v = .bool true ∧ wx = W.drew)
          case first =>
            gi_region_with_o fail
            all_goals (gi_wp2_with fail; gi_meet; exact ⟨rfl, rfl⟩)
          case rest =>
            obtain ⟨rfl, rfl⟩ := hcut
            gi_wp2_with fail
            exact ⟨KF.out, .inl ⟨by first | rfl | trivial, NP.out⟩⟩
      case done =>
        rintro D ys W hD hys hI hKd
        rw [hys] at hI
        clear hys ys
        have cA := cell_of_row _ _ 0 _ _ _ (hI.t.obj oA (by simp))
        have cK := cell_of_row _ _ 0 _ _ _ (hI.t.obj o3 (by simp; omega))
        simp only [List.getElem?_toArray, List.getElem?_cons_zero, List.getElem?_cons_succ] at cA cK
        have cM := (hI.many).cell
        have hsW := (hI.t).size
        have BB : Hid (Below w.heap.size w W) := B2.out.trans ((b0.mono B2.out.size).trans ((hI.t).below (by omega) (by simp; omega)))
        have O4W := hid ((hI.t).obj o4 (by simp; omega))
        have KDW := hid hKd
        have hmk := make_long
        have hcv := conv_long
        obtain ⟨mm, hmm⟩ : ∃ mm : Nat, mm = evs.length := ⟨_, rfl⟩
        have hmin : min (evs.length : Int) (1 + (K : Int)) = (mm : Int) := by have := hI.few; omega
        rw [← hmm] at cM
        clear hmm
        have hlD := lt_of_obj hKd
        have SL := hid (fun W (hE : Env W) => split_long longS (by rw [long_size]; decide) (by rw [long_size]; decide) W hE)
        have CA : Hid (∀ p : Addr, p.block < W.heap.size → (W.alloc (.cells longC 5)).cell? p = W.cell? p) := fun p hp => ((Below.refl W.heap.size W).alloc (Nat.le_refl _) _).cell hp
        clear hKd R0 R1 OK ALL hsq hI0 oA oM oS
        go_wp2_with fail
        refine (SL.out _ (HE.out.below (BB.out.alloc (by omega) _))).mono ?_
        rintro e w7 ⟨rfl, b7⟩
        have o7 := (b7.block _ (by simp; omega)).trans ((Below.heap_alloc W (.cells longC 5) _ (by omega)).trans O4W.out)
        have a7 := (b7.cell (p := ⟨w2.heap.size, 0, none⟩) (by simp; omega)).trans ((CA.out ⟨w2.heap.size, 0, none⟩ (by simp; omega)).trans cA)
        have m7 := (b7.cell (p := ⟨w2.heap.size + 1, 0, none⟩) (by simp; omega)).trans ((CA.out ⟨w2.heap.size + 1, 0, none⟩ (by simp; omega)).trans cM)
        have k7 := (b7.cell (p := ⟨w.heap.size, 0, none⟩) (by simp; omega)).trans ((CA.out ⟨w.heap.size, 0, none⟩ (by simp; omega)).trans cK)
        have D7 := (b7.block D (by simp; omega)).trans ((Below.heap_alloc W (.cells longC 5) _ (by omega)).trans KDW.out)
        have B7 := hid ((BB.out.alloc (o := .cells longC 5) (by omega)).trans (b7.mono (by simp; omega)))
        have c7 := cell_of_row _ _ 0 _ _ _ o7
        have f7 := frozen_of_row _ _ 0 _ _ o7
        simp only [List.getElem?_toArray, List.getElem?_cons_zero] at c7
        have KD : Hid ((w7.setCell ⟨w.heap.size + 1, 0, none⟩ (.bool true)).heap[D]? = some (.deferred (some []))) := (Below.heap_setCell _ _ _ _ (fun e => by simp at e; omega)).trans D7
        have BX : Boxed (w7.setCell ⟨w.heap.size + 1, 0, none⟩ (.bool true)) (w.heap.size + 1) 4 (.bool true) := (show Boxed w7 _ _ _ from o7).set _
        have BY : Boxed ((w7.setCell ⟨w.heap.size + 1, 0, none⟩ (.bool true)).putObj D (.deferred none)) (w.heap.size + 1) 4 (.bool true) := grown_cells (B := 0) (Go.grownBy_putObj' _ D (.deferred none)) (fun r e => by cases e; exact ⟨Nat.zero_le _, _, KD.out, rfl⟩) BX
        have e0 := BY.cell
        have FB : Hid (Below w.heap.size w ((w7.setCell ⟨w.heap.size + 1, 0, none⟩ (.bool true)).putObj D (.deferred none))) := ownFrom_below (β := Unit) (Nat.le_refl _) (Nat.le_refl _) () _ _ _ (B7.out.setCell (p := ⟨w.heap.size + 1, 0, none⟩) (by simp) (.bool true)) (Go.grownBy_putObj' _ D (.deferred none)) (fun r e => by cases e; exact ⟨by omega, _, KD.out, rfl⟩)
        clear BX BY o7 D7 b7 SL hmk hcv
        go_wp2_with fail
        refine ⟨by simp, .inl ⟨_, _, rfl, run_takeDeferred KD.out, ?_⟩⟩
        exact ⟨_, (show (results _ _).run _ _ = .ok (.bool true) _ by simp [results, Tryd.results5, go_sem, e0]), rfl, FB.out⟩
      case stop =>
        rintro D c pre W hD hSp (⟨rfl, hn⟩ | ⟨rfl, hX⟩) hKd
        · exact absurd hSp hn
        have hpl := hSp.length_le
        have cA := cell_of_row _ _ 0 _ _ _ (hX.t.obj oA (by simp))
        have cK := cell_of_row _ _ 0 _ _ _ (hX.t.obj o3 (by simp; omega))
        simp only [List.getElem?_toArray, List.getElem?_cons_zero, List.getElem?_cons_succ] at cA cK
        have cM := (hX.many).cell
        have hsW := (hX.t).size
        have BB : Hid (Below w.heap.size w W) := B2.out.trans ((b0.mono B2.out.size).trans ((hX.t).below (by omega) (by simp; omega)))
        have O4W := hid ((hX.t).obj o4 (by simp; omega))
        have KDW := hid hKd
        have hmk := make_long
        have hcv := conv_long
        obtain ⟨mm, hmm⟩ : ∃ mm : Nat, mm = pre.length := ⟨_, rfl⟩
        have hmin : min (evs.length : Int) (1 + (K : Int)) = (mm : Int) := by have := hX.few; omega
        rw [← hmm] at cM
        clear hmm
        have hlD := lt_of_obj hKd
        have SL := hid (fun W (hE : Env W) => split_long longS (by rw [long_size]; decide) (by rw [long_size]; decide) W hE)
        have CA : Hid (∀ p : Addr, p.block < W.heap.size → (W.alloc (.cells longC 5)).cell? p = W.cell? p) := fun p hp => ((Below.refl W.heap.size W).alloc (Nat.le_refl _) _).cell hp
        clear hKd R0 R1 OK ALL hsq hI0 oA oM oS
        refine (wpIn_wide (n := 5)).2 ?_
        go_wp2_with fail
        refine (SL.out _ (HE.out.below (BB.out.alloc (by omega) _))).mono ?_
        rintro e w7 ⟨rfl, b7⟩
        have o7 := (b7.block _ (by simp; omega)).trans ((Below.heap_alloc W (.cells longC 5) _ (by omega)).trans O4W.out)
        have a7 := (b7.cell (p := ⟨w2.heap.size, 0, none⟩) (by simp; omega)).trans ((CA.out ⟨w2.heap.size, 0, none⟩ (by simp; omega)).trans cA)
        have m7 := (b7.cell (p := ⟨w2.heap.size + 1, 0, none⟩) (by simp; omega)).trans ((CA.out ⟨w2.heap.size + 1, 0, none⟩ (by simp; omega)).trans cM)
        have k7 := (b7.cell (p := ⟨w.heap.size, 0, none⟩) (by simp; omega)).trans ((CA.out ⟨w.heap.size, 0, none⟩ (by simp; omega)).trans cK)
        have D7 := (b7.block D (by simp; omega)).trans ((Below.heap_alloc W (.cells longC 5) _ (by omega)).trans KDW.out)
        have B7 := hid ((BB.out.alloc (o := .cells longC 5) (by omega)).trans (b7.mono (by simp; omega)))
        have c7 := cell_of_row _ _ 0 _ _ _ o7
        have f7 := frozen_of_row _ _ 0 _ _ o7
        simp only [List.getElem?_toArray, List.getElem?_cons_zero] at c7
        have KD : Hid ((w7.setCell ⟨w.heap.size + 1, 0, none⟩ (.bool true)).heap[D]? = some (.deferred (some []))) := (Below.heap_setCell _ _ _ _ (fun e => by simp at e; omega)).trans D7
        have BX : Boxed (w7.setCell ⟨w.heap.size + 1, 0, none⟩ (.bool true)) (w.heap.size + 1) 4 (.bool true) := (show Boxed w7 _ _ _ from o7).set _
        have BY : Boxed ((w7.setCell ⟨w.heap.size + 1, 0, none⟩ (.bool true)).putObj D (.deferred none)) (w.heap.size + 1) 4 (.bool true) := grown_cells (B := 0) (Go.grownBy_putObj' _ D (.deferred none)) (fun r e => by cases e; exact ⟨Nat.zero_le _, _, KD.out, rfl⟩) BX
        have e0 := BY.cell
        have FB : Hid (Below w.heap.size w ((w7.setCell ⟨w.heap.size + 1, 0, none⟩ (.bool true)).putObj D (.deferred none))) := ownFrom_below (β := Unit) (Nat.le_refl _) (Nat.le_refl _) () _ _ _ (B7.out.setCell (p := ⟨w.heap.size + 1, 0, none⟩) (by simp) (.bool true)) (Go.grownBy_putObj' _ D (.deferred none)) (fun r e => by cases e; exact ⟨by omega, _, KD.out, rfl⟩)
        clear BX BY o7 D7 b7 SL hmk hcv
        go_wp2_with fail
        refine ⟨by simp, .inl ⟨_, _, rfl, run_takeDeferred KD.out, ?_⟩⟩
        exact ⟨_, (show (results _ _).run _ _ = .ok (.bool true) _ by simp [results, Tryd.results5, go_sem, e0]), rfl, FB.out⟩
set_option maxRecDepth 100000 in
set_option maxHeartbeats 2000000 in
theorem stops_walk (ps : List PcM) (v : Value) (kb : Int) (w : World) (hE : Env w) (hp : PcsAt w v ps) (wp : ∀ p ∈ ps, PcWf p) (k0 : 0 ≤ kb) (k1 : kb ≤ 255) :
    Calls Tryd.prog 5 #[v, .int .u8 kb] w fun e w' => e = .returned (.bool true) ∧ Below w.heap.size w w' := by
  by_cases n1 : ps.length ≤ 40
  · exact stops_in ps v kb w hE hp wp k0 k1 n1
  · obtain ⟨a, c, rfl, hml⟩ := hp.shape
    have g1 : (40 : Int) < (ps.length : Int) := by omega
    have bA : Below w.heap.size w ((w.alloc (.cells #[.int .u8 kb] 5)).alloc (.cells #[.bool false] 4)) := ((Below.refl _ w).alloc (Nat.le_refl _) _).alloc (by simp) _
    have HA := hid (awake_any _ (hE.below bA))
    clear hp wp hE
    go_enter Tryd.func5, Tryd.ntmps5
    go_wp2_with fail
    refine HA.out.mono ?_
    rintro e w1 ⟨rfl, b1⟩
    have o4 : w1.heap[w.heap.size + 1]? = some (.cells #[.bool false] 4 (0, 0)) := (b1.block _ (by simp)).trans (by have := heap_alloc_new (w.alloc (.cells #[.int .u8 kb] 5)) (.cells #[.bool false] 4); simpa using this)
    have B1 := hid (bA.trans (b1.mono (by simp; omega)))
    have c4 := cell_of_row _ _ 0 _ _ _ o4
    have f4 := frozen_of_row _ _ 0 _ _ o4
    simp only [List.getElem?_toArray, List.getElem?_cons_zero] at c4
    have e0 := ((show Boxed w1 _ _ _ from o4).set (.bool true)).cell
    have FB := hid (B1.out.setCell (p := ⟨w.heap.size + 1, 0, none⟩) (by simp) (.bool true))
    clear b1 HA bA o4
    go_wp2_with fail
    refine bodyPost_ret (v := .bool true) (by simp [results, Tryd.results5, go_sem, e0]) rfl ⟨rfl, ?_⟩
    exact FB.out
end Go.Proofs.YtnflohejjgmlnaaDoor
