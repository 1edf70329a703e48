/- BagDrains: the walk. -/
import Derived.Test.YtfokekciemofiaaDrV
import Derived.Test.YtfokekciemofiaaAllC
set_option linter.unusedSimpArgs false
set_option linter.unusedVariables false
namespace Go.Proofs.Ytfokekciemofiaa
open Go.RowKit
attribute [local go_sem] Oper.semAt_some

set_option maxRecDepth 100000 in
set_option maxHeartbeats 4000000 in
theorem drains_any (ao : Option Addr) (b off n cap : Nat) (fx gx : Nat → Int) (nx : Array Value) (st : Int) (w : World) (hn : n ≤ 40) (hao : 0 < n → ao = some ⟨b, off, none⟩ ∧ b < w.heap.size)
    (hk : ∀ j, j < n → w.cell? ⟨b, off + j, none⟩ = some (.int .u8 (fx j)) ∧ 0 ≤ fx j ∧ fx j < 256) (hg : nx.size = 16) (hg2 : ∀ j, j < 16 → nx[j]? = some (.int .u8 (gx j)) ∧ 0 ≤ gx j ∧ gx j < 256) (hst : 0 ≤ st ∧ st < 256) :
    Calls Try.prog 6 #[.slice ao n cap, .agg nx, .int .u8 st] w fun e w' => e = .returned (.bool true) ∧ Below w.heap.size w w' := by
  have ha := awake ((w.alloc (.cells nx 55)).alloc (.cells #[.bool false] 4))
  have HA := hid hao
  have HK := hid hk
  have HG := hid hg2
  clear hao hk hg2
  have hmm := @run_makeMap Try.prog
  refine calls_marks Try.func6 rfl ?_
  simp only [Try.ntmps6, List.size_toArray, List.length_cons, List.length_nil, Nat.reduceAdd, Nat.reduceSub, Array.replicate_succ, Array.replicate_zero, List.push_toArray, List.append_toArray, List.nil_append, List.cons_append]
  go_wp2_with (go_at_call 9; refine ha.mono ?_; rintro e w1 ⟨rfl, hb⟩; obtain ⟨b1, o1, o2, z1⟩ := two_laid hb; have ST := hid (d1_start b1 o1 o2 z1); clear hb b1 o1 o2)
  clear ha
  generalize hW0 : ((w1.alloc (.cells #[.slice none 0 0, .map none] 58)).alloc (.cells #[.slice none 0 0, .map none] 58)).alloc (.cells #[.slice none 0 0] 24) = W0 at ST ⊢
  generalize hqb : w1.heap.size = qb at *
  clear hW0
  go_loopw [24] (fun vi wr => ∃ (k : Nat) (v : Value) (mo : Option Nat) (rv : Value) (l : List Int), vi = .int .i64 k ∧ k ≤ n ∧ D1 w.heap.size w.heap.size (w.heap.size + 1) (qb + 1) qb (qb + 2) nx w k wr v mo rv l) (fun vi _ => n - (intOf vi).toNat)
  case atStart => exact ⟨0, _, _, _, _, rfl, Nat.zero_le _, ST.out⟩
  case round =>
    clear ST
    obtain ⟨k, v, mo, rv, l, rfl, hkn, hd⟩ := hrel
    by_cases hlt : k < n
    · obtain ⟨rfl, hbw⟩ := HA.out (by omega)
      obtain ⟨ck, r1, r2⟩ := HK.out k hlt
      have ck2 := (hd.bel.cell (p := ⟨b, off + k, none⟩) hbw).trans ck
      generalize fx k = ax at *
      clear ck
      have h0 : 0 ≤ ax % 16 := by omega
      have h1 : ax % 16 < 16 := by omega
      have crow := hd.q2.bx.cell
      cases hin : hasI (ax % 16) l with
      | true =>
        have hp := d1_no hd (Nat.le_refl _) h0 h1 hin
        clear hd crow
        go_wp2_with (first | (go_at_call 29; refine hp.mono ?_; rintro e w2 ⟨rfl, hd2⟩; have hcon := contains_I _ l (ax % 16) _ hd2.q2.row (by have := hd2.len; omega); rw [hin] at hcon; have crow2 := hd2.q2.bx.cell; have HD2 := hid hd2; clear hd2) | (go_at_call 30; refine hcon.mono ?_; rintro e w' ⟨rfl, rfl⟩))
        go_roundw
        case rel => exact ⟨k + 1, v, mo, rv, l, by go_num, by omega, HD2.out⟩
        case measure => simp [intOf]; omega
      | false =>
        have hp := d1_yes hd (Nat.le_refl _) (by omega) h0 h1 hin
        have hlen := hd.len
        clear hd crow
        go_wp2_with (first | (go_at_call 29; refine hp.mono ?_; rintro e w2 ⟨rfl, hseg, crow2, b', o', cp, w3, v', mo', p1, p2, p3, hd3⟩; have hcon := contains_I _ l (ax % 16) _ hseg (by omega); rw [hin] at hcon; have HD3 := hid hd3; clear hd3 hseg) | (go_at_call 30; refine hcon.mono ?_; rintro e w' ⟨rfl, rfl⟩) | (at_builtin; refine Lib.wpList_append_run _ rfl _ _ _ _ rfl _ _ rfl rfl _ _ p1 ?_))
        go_roundw
        case rel => exact ⟨k + 1, v', mo', _, _, by go_num, by omega, HD3.out⟩
        case measure => simp [intOf]; omega
    · have DST := hid (ds_start hd (by omega) (Nat.le_refl _))
      clear hd HA HK
      go_wp2_with fail
      rename_i K0 hK0
      generalize hW2 : ((wr.alloc (.map #[] 0)).alloc (.cells #[.map (some wr.heap.size)] 27)).alloc (.cells #[.int .i64 0] 3) = W2 at DST ⊢
      clear hW2
      generalize hsm : wr.heap.size = sm at *
      generalize hnb : w.heap.size = nb at *
      obtain ⟨rb, hrb⟩ : ∃ rb, rb = nb + 1 := ⟨_, rfl⟩
      obtain ⟨pb, hpb⟩ : ∃ pb, pb = qb + 1 := ⟨_, rfl⟩
      obtain ⟨rwb, hrwb⟩ : ∃ rwb, rwb = qb + 1 + 1 := ⟨_, rfl⟩
      obtain ⟨mx, hmx⟩ : ∃ mx, mx = sm + 1 := ⟨_, rfl⟩
      obtain ⟨kb, hkb⟩ : ∃ kb, kb = sm + 1 + 1 := ⟨_, rfl⟩
      rw [← hrb, ← hpb, show qb + 2 = rwb from hrwb.symm, ← hmx, show sm + 2 = kb from hkb.symm] at DST
      rw [← hrwb, ← hkb, ← hrb, ← hpb, ← hmx]
      clear hrb hpb hrwb hmx hkb hsm hqb
      have HNB := hid hnb
      clear hnb
      have END : ∀ a W, (∃ k, Outer nb nb rb pb mx sm kb qb rwb nx w st k a W) → K0 a W := by
        rintro ⟨ts, ds⟩ W ⟨k2, ⟨hsz, e2, e4, e6, e7, e8, e9, e12, e13⟩, Ds, v2, mo2, rv2, l2, sn2, hds, hnd, hD, hDS, hk2⟩
        refine hK0 _ _ ?_
        clear hK0 DST
        simp only at hsz e2 e4 e6 e7 e8 e9 e12 e13 hds
        rw [frame103 ts hsz]
        simp only [e2, e4, e6, e7, e8, e9, e12, e13, hds]
        clear e2 e4 e6 e7 e8 e9 e12 e13 hds hsz
        generalize ts.getD 0 undef = t0
        generalize ts.getD 1 undef = t1
        generalize ts.getD 3 undef = t3
        generalize ts.getD 5 undef = t5
        generalize ts.getD 10 undef = t10
        generalize ts.getD 11 undef = t11
        generalize ts.getD 14 undef = t14
        generalize ts.getD 15 undef = t15
        generalize ts.getD 16 undef = t16
        generalize ts.getD 17 undef = t17
        generalize ts.getD 18 undef = t18
        generalize ts.getD 19 undef = t19
        generalize ts.getD 20 undef = t20
        generalize ts.getD 21 undef = t21
        generalize ts.getD 22 undef = t22
        generalize ts.getD 23 undef = t23
        generalize ts.getD 24 undef = t24
        generalize ts.getD 25 undef = t25
        generalize ts.getD 26 undef = t26
        generalize ts.getD 27 undef = t27
        generalize ts.getD 28 undef = t28
        generalize ts.getD 29 undef = t29
        generalize ts.getD 30 undef = t30
        generalize ts.getD 31 undef = t31
        generalize ts.getD 32 undef = t32
        generalize ts.getD 33 undef = t33
        generalize ts.getD 34 undef = t34
        generalize ts.getD 35 undef = t35
        generalize ts.getD 36 undef = t36
        generalize ts.getD 37 undef = t37
        generalize ts.getD 38 undef = t38
        generalize ts.getD 39 undef = t39
        generalize ts.getD 40 undef = t40
        generalize ts.getD 41 undef = t41
        generalize ts.getD 42 undef = t42
        generalize ts.getD 43 undef = t43
        generalize ts.getD 44 undef = t44
        generalize ts.getD 45 undef = t45
        generalize ts.getD 46 undef = t46
        generalize ts.getD 47 undef = t47
        generalize ts.getD 48 undef = t48
        generalize ts.getD 49 undef = t49
        generalize ts.getD 50 undef = t50
        generalize ts.getD 51 undef = t51
        generalize ts.getD 52 undef = t52
        generalize ts.getD 53 undef = t53
        generalize ts.getD 54 undef = t54
        generalize ts.getD 55 undef = t55
        generalize ts.getD 56 undef = t56
        generalize ts.getD 57 undef = t57
        generalize ts.getD 58 undef = t58
        generalize ts.getD 59 undef = t59
        generalize ts.getD 60 undef = t60
        generalize ts.getD 61 undef = t61
        generalize ts.getD 62 undef = t62
        generalize ts.getD 63 undef = t63
        generalize ts.getD 64 undef = t64
        generalize ts.getD 65 undef = t65
        generalize ts.getD 66 undef = t66
        generalize ts.getD 67 undef = t67
        generalize ts.getD 68 undef = t68
        generalize ts.getD 69 undef = t69
        generalize ts.getD 70 undef = t70
        generalize ts.getD 71 undef = t71
        generalize ts.getD 72 undef = t72
        generalize ts.getD 73 undef = t73
        generalize ts.getD 74 undef = t74
        generalize ts.getD 75 undef = t75
        generalize ts.getD 76 undef = t76
        generalize ts.getD 77 undef = t77
        generalize ts.getD 78 undef = t78
        generalize ts.getD 79 undef = t79
        generalize ts.getD 80 undef = t80
        generalize ts.getD 81 undef = t81
        generalize ts.getD 82 undef = t82
        generalize ts.getD 83 undef = t83
        generalize ts.getD 84 undef = t84
        generalize ts.getD 85 undef = t85
        generalize ts.getD 86 undef = t86
        generalize ts.getD 87 undef = t87
        generalize ts.getD 88 undef = t88
        generalize ts.getD 89 undef = t89
        generalize ts.getD 90 undef = t90
        generalize ts.getD 91 undef = t91
        generalize ts.getD 92 undef = t92
        generalize ts.getD 93 undef = t93
        generalize ts.getD 94 undef = t94
        generalize ts.getD 95 undef = t95
        generalize ts.getD 96 undef = t96
        generalize ts.getD 97 undef = t97
        generalize ts.getD 98 undef = t98
        generalize ts.getD 99 undef = t99
        generalize ts.getD 100 undef = t100
        generalize ts.getD 101 undef = t101
        generalize ts.getD 102 undef = t102
        clear ts
        have HDS := hid hDS
        have HD := hid hD
        clear hDS hD
        go_wp2_with (go_at_call 31; refine (drain_I _ _).mono ?_; rintro e w3 ⟨rfl, rfl⟩)
        have hB : nb ≤ w.heap.size := by rw [HNB.out]; exact Nat.le_refl _
        have d3 := ds_new HDS.out hB (.cells #[.pointer (some ⟨pb, 0, none⟩)] 100)
        have hBW : nb ≤ W.heap.size := bel_sz HDS.out.bel hB
        have f3 : Fx (W.alloc (.cells #[.pointer (some ⟨pb, 0, none⟩)] 100)).heap.size Ds W.heap.size pb rb false (W.alloc (.cells #[.pointer (some ⟨pb, 0, none⟩)] 100)) :=
          ⟨fun D hD => by have := lt_of_obj (HD.out D hD); exact ⟨by simp; omega, (Below.heap_alloc _ _ _ this).trans (HD.out D hD)⟩, heap_alloc_new W _, d3.rso⟩
        have hBW3 : nb ≤ (W.alloc (.cells #[.pointer (some ⟨pb, 0, none⟩)] 100)).heap.size := by simp; omega
        have HLO : Hid (∀ D ∈ Ds, nb ≤ D) := fun D hD => HDS.out.lo D (by simp [hD])
        clear HDS HD
        generalize hW3 : W.alloc (.cells #[.pointer (some ⟨pb, 0, none⟩)] 100) = W3 at *
        generalize hWs : W.heap.size = Ws at *
        refine (wpIn_wide (n := 5)).1 ?_
        refine wpIn_steps (fun (x : Int) t => t.setIfInBounds 98 (.int .i64 x)) rfl (by decide) (gf := 63) (lb := #[.pointer (some ⟨Ws, 0, none⟩)]) rfl trivial (enters_of Try.func63 (by kernel_rfl) rfl) (encs := fun x : Int => #[.int .i64 x]) (fun _ => rfl)
          (I := fun m W' => m = 0 ∧ DS nb W3.heap.size nb rb pb mx sm kb (Ws :: Ds) qb rwb nx w k2 (40 + 3 * k2) W' v2 mo2 rv2 l2 l2 sn2 ∧ Fx W3.heap.size Ds Ws pb rb false W') (Iy := fun _ _ _ => False) (Id := fun W' => DS nb W3.heap.size nb rb pb mx sm kb (Ws :: Ds) qb rwb nx w k2 (40 + 3 * k2) W' v2 mo2 rv2 l2 l2 sn2 ∧ Fx W3.heap.size Ds Ws pb rb false W') (fun _ _ => False)
          (drains_I 4 (by decide) Ws pb W3.heap.size _ _ _ (fun m W' h => ⟨by rw [cell_of_row _ _ 0 _ _ _ h.2.2.bo]; rfl, (take_none_I pb (.slice none 0 0) none 0 W' ⟨h.2.1.pqo, Seg.nil _ _, by simp [blks], .inl ⟨rfl, rfl⟩, List.nodup_nil, by simp⟩).mono (fun e W2 ⟨he, hw⟩ => ⟨by rw [← hw]; exact KeepsFrom.refl _ _, .inl ⟨he, by rw [← hw]; exact h.2⟩⟩)⟩))
          (fun s W1 W2 row h g hr => ⟨h.1, h.2.1.grown hB hBW3 g hr, h.2.2.grown g hr⟩) (fun _ _ _ _ _ h _ _ => h) (fun s W1 W2 row h g hr => ⟨h.1.grown hB hBW3 g hr, h.2.grown g hr⟩) (fun _ _ _ _ h _ _ => h) 0 ⟨rfl, d3, f3⟩ ?assign ?body ?done ?stop
        case assign =>
          intro lp x W K hK
          gi_wp2
          simp only [List.setIfInBounds_toArray, List.set_cons_succ, List.set_cons_zero] at hK
          exact hK
        case body => exact fun _ _ _ _ h => h.elim
        case stop => exact fun _ _ _ _ h _ => h.elim
        case done =>
          rintro D0 W4 hD0 ⟨d4, f4⟩ hK
          have t5 : Tch [] W4 W4.drew := (Tch.refl [] W4).drew
          have d5 := d4.else t5 (by simp) (by simp) (t5.below (bel_sz d4.bel hB) (by simp))
          have crow := d5.reads.1
          have crb : W4.drew.cell? ⟨rb, 0, none⟩ = some (.bool false) := by rw [cell_of_row _ _ 0 _ _ _ d5.rso]; rfl
          have frb := frozen_of_row _ _ 0 _ _ d5.rso
          have hl := qlen_I _ _ _ _ _ _ d5.q2.q
          obtain ⟨ao2, ac2, rfl⟩ := seg_slice d5.q2.row
          rw [vals_lenI] at crow
          have hln : l2.length ≤ 1000 := by have := d5.len; omega
          have D5 := hid d5
          have F4 := hid f4
          have BEL4 := hid d4.bel
          clear d4 d5 f4
          go_wp2_with fail
          go_region_with (go_at_call 32; refine hl.mono ?_; rintro e w' ⟨rfl, rfl⟩)
          all_goals
            go_wp2_with fail
            have o4 := D5.out.rso
            have t6 : Tch [rb] W4 (W4.setCell ⟨rb, 0, none⟩ (.bool true)).drew := ((Tch.refl [rb] W4).setCell (p := ⟨rb, 0, none⟩) (.inl (by simp)) _).drew
            have o6 : (W4.setCell ⟨rb, 0, none⟩ (.bool true)).drew.heap[rb]? = some (.cells #[.bool true] 4 (0, 0)) := heap_setCell_same W4 rb 0 _ _ (.bool true) o4
            have ndr : ∀ D : Nat, W4.heap[D]? = some (.deferred (some [])) → ¬ D ∈ [rb] := fun D hD e => by
              simp at e; subst e
              have : W4.heap[D]? = _ := o4
              rw [hD] at this; cases this
            have hall : ∀ D ∈ D0 :: Ds, (W4.setCell ⟨rb, 0, none⟩ (.bool true)).drew.heap[D]? = some (.deferred (some [])) := fun D hD => by
              rcases List.mem_cons.1 hD with e | e
              · rw [e]; exact t6.obj hK (ndr _ hK)
              · exact t6.obj (F4.out.ds D e).2 (ndr _ (F4.out.ds D e).2)
            rw [HNB.out]
            exact leaves_coll (B := nb) (w := w) Try.results6 _ rb rfl (D0 :: Ds) _ (List.nodup_cons.2 ⟨fun hm => by have := (F4.out.ds D0 hm).1; omega, hnd⟩) hall (fun D hD => by
              rcases List.mem_cons.1 hD with e | e
              · rw [e]; omega
              · exact HLO.out D e) hB o6 ((BEL4.out).trans (t6.below (bel_sz BEL4.out hB) (by simp; exact D5.out.lo rb (by simp))))
      clear hK0
      refine wp_loop_ghost_k (fun m a W => ∃ k, Outer nb nb rb pb mx sm kb qb rwb nx w st k a W ∧ m = 50 - k) 50 ⟨0, ⟨⟨rfl, rfl, rfl, rfl, rfl, rfl, rfl, rfl, rfl⟩, [], _, _, _, _, _, rfl, List.nodup_nil, by simp, DST.out, by omega⟩, rfl⟩ ?_
      rintro m ⟨ts, ds⟩ W ⟨k2, ⟨⟨hsz, e2, e4, e6, e7, e8, e9, e12, e13⟩, Ds, v2, mo2, rv2, l2, sn2, hds, hnd, hD, hDS, hk2⟩, hm⟩ J K1 hJ hK1
      clear DST
      simp only at hsz e2 e4 e6 e7 e8 e9 e12 e13 hds
      rw [frame103 ts hsz]
      simp only [e2, e4, e6, e7, e8, e9, e12, e13, hds]
      clear e2 e4 e6 e7 e8 e9 e12 e13 hds hsz
      generalize ts.getD 0 undef = t0
      generalize ts.getD 1 undef = t1
      generalize ts.getD 3 undef = t3
      generalize ts.getD 5 undef = t5
      generalize ts.getD 10 undef = t10
      generalize ts.getD 11 undef = t11
      generalize ts.getD 14 undef = t14
      generalize ts.getD 15 undef = t15
      generalize ts.getD 16 undef = t16
      generalize ts.getD 17 undef = t17
      generalize ts.getD 18 undef = t18
      generalize ts.getD 19 undef = t19
      generalize ts.getD 20 undef = t20
      generalize ts.getD 21 undef = t21
      generalize ts.getD 22 undef = t22
      generalize ts.getD 23 undef = t23
      generalize ts.getD 24 undef = t24
      generalize ts.getD 25 undef = t25
      generalize ts.getD 26 undef = t26
      generalize ts.getD 27 undef = t27
      generalize ts.getD 28 undef = t28
      generalize ts.getD 29 undef = t29
      generalize ts.getD 30 undef = t30
      generalize ts.getD 31 undef = t31
      generalize ts.getD 32 undef = t32
      generalize ts.getD 33 undef = t33
      generalize ts.getD 34 undef = t34
      generalize ts.getD 35 undef = t35
      generalize ts.getD 36 undef = t36
      generalize ts.getD 37 undef = t37
      generalize ts.getD 38 undef = t38
      generalize ts.getD 39 undef = t39
      generalize ts.getD 40 undef = t40
      generalize ts.getD 41 undef = t41
      generalize ts.getD 42 undef = t42
      generalize ts.getD 43 undef = t43
      generalize ts.getD 44 undef = t44
      generalize ts.getD 45 undef = t45
      generalize ts.getD 46 undef = t46
      generalize ts.getD 47 undef = t47
      generalize ts.getD 48 undef = t48
      generalize ts.getD 49 undef = t49
      generalize ts.getD 50 undef = t50
      generalize ts.getD 51 undef = t51
      generalize ts.getD 52 undef = t52
      generalize ts.getD 53 undef = t53
      generalize ts.getD 54 undef = t54
      generalize ts.getD 55 undef = t55
      generalize ts.getD 56 undef = t56
      generalize ts.getD 57 undef = t57
      generalize ts.getD 58 undef = t58
      generalize ts.getD 59 undef = t59
      generalize ts.getD 60 undef = t60
      generalize ts.getD 61 undef = t61
      generalize ts.getD 62 undef = t62
      generalize ts.getD 63 undef = t63
      generalize ts.getD 64 undef = t64
      generalize ts.getD 65 undef = t65
      generalize ts.getD 66 undef = t66
      generalize ts.getD 67 undef = t67
      generalize ts.getD 68 undef = t68
      generalize ts.getD 69 undef = t69
      generalize ts.getD 70 undef = t70
      generalize ts.getD 71 undef = t71
      generalize ts.getD 72 undef = t72
      generalize ts.getD 73 undef = t73
      generalize ts.getD 74 undef = t74
      generalize ts.getD 75 undef = t75
      generalize ts.getD 76 undef = t76
      generalize ts.getD 77 undef = t77
      generalize ts.getD 78 undef = t78
      generalize ts.getD 79 undef = t79
      generalize ts.getD 80 undef = t80
      generalize ts.getD 81 undef = t81
      generalize ts.getD 82 undef = t82
      generalize ts.getD 83 undef = t83
      generalize ts.getD 84 undef = t84
      generalize ts.getD 85 undef = t85
      generalize ts.getD 86 undef = t86
      generalize ts.getD 87 undef = t87
      generalize ts.getD 88 undef = t88
      generalize ts.getD 89 undef = t89
      generalize ts.getD 90 undef = t90
      generalize ts.getD 91 undef = t91
      generalize ts.getD 92 undef = t92
      generalize ts.getD 93 undef = t93
      generalize ts.getD 94 undef = t94
      generalize ts.getD 95 undef = t95
      generalize ts.getD 96 undef = t96
      generalize ts.getD 97 undef = t97
      generalize ts.getD 98 undef = t98
      generalize ts.getD 99 undef = t99
      generalize ts.getD 100 undef = t100
      generalize ts.getD 101 undef = t101
      generalize ts.getD 102 undef = t102
      clear ts
      have hB : nb ≤ w.heap.size := by rw [HNB.out]; exact Nat.le_refl _
      have ck := hDS.reads.2.2.2.1
      have hst0 : 0 ≤ st := hst.1
      have hst1 : st < 256 := hst.2
      by_cases hle : (k2 : Int) ≤ st % 40
      · have hk39 : k2 ≤ 39 := by omega
        have d3 := ds_new hDS hB (.cells #[.bool false] 4)
        have d4 := (ds_new d3 hB (.cells #[.pointer (some ⟨qb, 0, none⟩)] 100)).less (E' := W.heap.size :: (W.alloc (.cells #[.bool false] 4)).heap.size :: Ds) (fun b hb => by
          simp only [List.mem_cons] at hb ⊢
          rcases hb with e | e | e
          · exact .inr (.inl e)
          · exact .inl e
          · exact .inr (.inr e))
        have zs : (W.alloc (.cells #[.bool false] 4)).heap.size = W.heap.size + 1 := by simp
        have f4 : Fx ((W.alloc (.cells #[.bool false] 4)).alloc (.cells #[.pointer (some ⟨qb, 0, none⟩)] 100)).heap.size Ds (W.alloc (.cells #[.bool false] 4)).heap.size qb W.heap.size false ((W.alloc (.cells #[.bool false] 4)).alloc (.cells #[.pointer (some ⟨qb, 0, none⟩)] 100)) :=
          ⟨fun D hd => by have := lt_of_obj (hD D hd); exact ⟨by simp; omega, (Below.heap_alloc _ _ _ (by simp; omega)).trans ((Below.heap_alloc _ _ _ this).trans (hD D hd))⟩, heap_alloc_new _ _, (Below.heap_alloc _ _ _ (by simp)).trans (heap_alloc_new W _)⟩
        have hBW : nb ≤ W.heap.size := bel_sz hDS.bel hB
        have hBW4 : nb ≤ ((W.alloc (.cells #[.bool false] 4)).alloc (.cells #[.pointer (some ⟨qb, 0, none⟩)] 100)).heap.size := by simp; omega
        have HLO : Hid (∀ D ∈ Ds, nb ≤ D) := fun D hd => hDS.lo D (by simp [hd])
        have D4 := hid d4
        have F4 := hid f4
        clear d3 d4 f4 hDS hD
        go_wp2_with (go_at_call 31; refine (drain_I _ _).mono ?_; rintro e w3 ⟨rfl, rfl⟩)
        generalize hW4 : (W.alloc (.cells #[.bool false] 4)).alloc (.cells #[.pointer (some ⟨qb, 0, none⟩)] 100) = W4 at *
        rw [zs] at D4 F4
        generalize hsb : W.heap.size = sb at *
        obtain ⟨Bs, hBs⟩ : ∃ Bs, Bs = sb + 1 := ⟨_, rfl⟩
        rw [← hBs] at D4 F4 ⊢
        clear hBs zs
        refine (wpIn_wide (n := 5)).1 ?_
        refine wpIn_steps (fun (x : Int) t => (t.setIfInBounds 52 (.int .i64 x)).setIfInBounds 15 (.int .i64 x)) rfl (by decide) (gf := 63) (lb := #[.pointer (some ⟨Bs, 0, none⟩)]) rfl trivial (enters_of Try.func63 (by kernel_rfl) rfl) (encs := fun x : Int => #[.int .i64 x]) (fun _ => rfl)
          (fun c W' => c = .exit 4 ∧ InD nb W4.heap.size nb rb pb mx sm kb sb Bs Ds qb rwb nx w k2 W')
          (drains_I 4 (by decide) Bs qb W4.heap.size _ _ _ (fun m W' h => in_take h hB))
          (inI_own hB hBW4) (inY_own hB hBW4) (fun s W1 W2 row h g hr => inD_grown hB hBW4 h g hr) (fun s W1 W2 row h g hr => ⟨h.1, inD_grown hB hBW4 h.2 g hr⟩) (3 - k2 % 3) ⟨k2, false, v2, mo2, rv2, l2, sn2, D4.out, F4.out, Nat.le_refl _, rfl, by omega, fun _ => rfl, fun h => by cases h⟩ ?assign ?body ?done ?stop
        case assign =>
          intro lp x W K hK
          gi_wp2
          simp only [List.setIfInBounds_toArray, List.set_cons_succ, List.set_cons_zero] at hK
          exact hK
        case body =>
          rintro lp m' x W5 ⟨k, bs, v5, mo5, rv5, r, sn5, d5, f5, hsome, hx0, hx1, hk0, hm', hk3⟩
          have mixed : Try.prog.follows .mixedOrders = true := by kernel_rfl
          have hF1 : Fence.wide.fn 29 := trivial
          have hF2 : Fence.wide.fn 30 := trivial
          have nsb : ¬ sb ∈ Bs :: Ds := fun hm => by
            rcases List.mem_cons.1 hm with e | e
            · have := f5.bo; rw [← e, f5.so] at this; simp at this
            · have := (f5.ds sb e).2; rw [f5.so] at this; cases this
          obtain ⟨d6, s6, o6⟩ := ds_some d5 hB rfl nsb f5.so true
          have f6 := fx_some f5 s6 o6
          have csb5 : W5.cell? ⟨sb, 0, none⟩ = some (.bool bs) := by rw [cell_of_row _ _ 0 _ _ _ f5.so]; rfl
          have fsb5 := frozen_of_row _ _ 0 _ _ f5.so
          obtain ⟨b', off', cap', hrv⟩ := seg_some d6.q2.row (by rw [vals_lenI]; simp)
          rw [vals_lenI, List.length_cons] at hrv
          subst hrv
          have stl : Seg (W5.setCell ⟨sb, 0, none⟩ (.bool true)) 3 (.slice (some ⟨b', off', none⟩) ((valsI r).length + 1) cap') (.int .i64 x :: valsI r) := by rw [vals_lenI]; exact d6.q2.row
          obtain ⟨q1, q2, q3, q4, q5⟩ := seg_tail stl
          rw [vals_lenI] at q2 q5
          unfold maxLen at q3
          have crow6 := d6.reads.1
          have frow6 := d6.reads.2.1
          have hk41 : k ≤ 41 := by omega
          have hr1000 : r.length ≤ 1000 := by have := d6.len; omega
          obtain ⟨g1, g2, g3⟩ := HG.out x.toNat (by omega)
          generalize gx x.toNat = g at g1 g2 g3
          have y0 : 0 ≤ g % 16 := by omega
          have y1 : g % 16 < 16 := by omega
          have hcut : ∃ u, DS nb W4.heap.size nb rb pb mx sm kb (sb :: Bs :: Ds) qb rwb nx w k (40 + 3 * k) ((W5.setCell ⟨sb, 0, none⟩ (.bool true)).setCell ⟨rwb, 0, none⟩ u) v5 mo5 u r r sn5 ∧ Stp W4.heap.size (sb :: Bs :: Ds) (W5.setCell ⟨sb, 0, none⟩ (.bool true)) ((W5.setCell ⟨sb, 0, none⟩ (.bool true)).setCell ⟨rwb, 0, none⟩ u) ∧ ((cap' = 1 ∧ r = [] ∧ u = .slice (some ⟨b', off', none⟩) 0 0) ∨ (¬ cap' = 1 ∧ u = .slice (some ⟨b', off' + 1, none⟩) r.length (cap' - 1))) := by
            by_cases hcap : cap' = 1
            · obtain ⟨a1, a2⟩ := ds_cut d6 hB (q4 hcap) (by simp [blks])
              exact ⟨_, a1, a2, .inl ⟨hcap, List.eq_nil_of_length_eq_zero (by omega), rfl⟩⟩
            · obtain ⟨a1, a2⟩ := ds_cut d6 hB (q5 hcap) (by simp [blks])
              exact ⟨_, a1, a2, .inr ⟨hcap, rfl⟩⟩
          obtain ⟨u, d7, s7, hu⟩ := hcut
          have f7 := fx_step f6 s7
          have k7 := s6.kf.trans s7.kf
          clear d5 d6 f5 f6 s6 s7 o6 q4 q5 stl nsb
          have D7 := hid d7
          have F7 := hid f7
          have K7 := hid k7
          clear d7 f7 k7
          refine wpIn_block ?_
          refine wpIn_seq4_k ?_
          intro KA hKA
          obtain ⟨PA, hPA⟩ : ∃ PA : Act → World → Prop, ∀ a W, PA a W ↔ (a.defers = [] ∧ SlotsB nb rb mx kb qb rwb sb x a.tmps ∧ ∃ u, DS nb W4.heap.size nb rb pb mx sm kb (sb :: Bs :: Ds) qb rwb nx w k (40 + 3 * k) W v5 mo5 u r r sn5 ∧ Fx W4.heap.size Ds Bs qb sb true W ∧ KeepsFrom W4.heap.size W5 W) := ⟨_, fun _ _ => Iff.rfl⟩
          have RESTA : ∀ a W, PA a W → KA a W := by
            clear D7 F7 K7 hu q1 q2 q3 crow6 frow6 csb5 fsb5
            rintro ⟨ts, ds⟩ W7 hpa
            obtain ⟨hds, ⟨hsz, e4, e6, e7, e9, e12, e13, e14, e15⟩, u, d7, f7, k7⟩ := (hPA _ _).1 hpa
            clear hpa hPA
            refine hKA _ _ ?_
            clear hKA
            simp only at hds hsz e4 e6 e7 e9 e12 e13 e14 e15
            subst hds
            rw [frame103 ts hsz]
            simp only [e4, e6, e7, e9, e12, e13, e14, e15]
            clear e4 e6 e7 e9 e12 e13 e14 e15 hsz
            generalize ts.getD 0 undef = z0
            generalize ts.getD 1 undef = z1
            generalize ts.getD 2 undef = z2
            generalize ts.getD 3 undef = z3
            generalize ts.getD 5 undef = z5
            generalize ts.getD 8 undef = z8
            generalize ts.getD 10 undef = z10
            generalize ts.getD 11 undef = z11
            generalize ts.getD 16 undef = z16
            generalize ts.getD 17 undef = z17
            generalize ts.getD 18 undef = z18
            generalize ts.getD 19 undef = z19
            generalize ts.getD 20 undef = z20
            generalize ts.getD 21 undef = z21
            generalize ts.getD 22 undef = z22
            generalize ts.getD 23 undef = z23
            generalize ts.getD 24 undef = z24
            generalize ts.getD 25 undef = z25
            generalize ts.getD 26 undef = z26
            generalize ts.getD 27 undef = z27
            generalize ts.getD 28 undef = z28
            generalize ts.getD 29 undef = z29
            generalize ts.getD 30 undef = z30
            generalize ts.getD 31 undef = z31
            generalize ts.getD 32 undef = z32
            generalize ts.getD 33 undef = z33
            generalize ts.getD 34 undef = z34
            generalize ts.getD 35 undef = z35
            generalize ts.getD 36 undef = z36
            generalize ts.getD 37 undef = z37
            generalize ts.getD 38 undef = z38
            generalize ts.getD 39 undef = z39
            generalize ts.getD 40 undef = z40
            generalize ts.getD 41 undef = z41
            generalize ts.getD 42 undef = z42
            generalize ts.getD 43 undef = z43
            generalize ts.getD 44 undef = z44
            generalize ts.getD 45 undef = z45
            generalize ts.getD 46 undef = z46
            generalize ts.getD 47 undef = z47
            generalize ts.getD 48 undef = z48
            generalize ts.getD 49 undef = z49
            generalize ts.getD 50 undef = z50
            generalize ts.getD 51 undef = z51
            generalize ts.getD 52 undef = z52
            generalize ts.getD 53 undef = z53
            generalize ts.getD 54 undef = z54
            generalize ts.getD 55 undef = z55
            generalize ts.getD 56 undef = z56
            generalize ts.getD 57 undef = z57
            generalize ts.getD 58 undef = z58
            generalize ts.getD 59 undef = z59
            generalize ts.getD 60 undef = z60
            generalize ts.getD 61 undef = z61
            generalize ts.getD 62 undef = z62
            generalize ts.getD 63 undef = z63
            generalize ts.getD 64 undef = z64
            generalize ts.getD 65 undef = z65
            generalize ts.getD 66 undef = z66
            generalize ts.getD 67 undef = z67
            generalize ts.getD 68 undef = z68
            generalize ts.getD 69 undef = z69
            generalize ts.getD 70 undef = z70
            generalize ts.getD 71 undef = z71
            generalize ts.getD 72 undef = z72
            generalize ts.getD 73 undef = z73
            generalize ts.getD 74 undef = z74
            generalize ts.getD 75 undef = z75
            generalize ts.getD 76 undef = z76
            generalize ts.getD 77 undef = z77
            generalize ts.getD 78 undef = z78
            generalize ts.getD 79 undef = z79
            generalize ts.getD 80 undef = z80
            generalize ts.getD 81 undef = z81
            generalize ts.getD 82 undef = z82
            generalize ts.getD 83 undef = z83
            generalize ts.getD 84 undef = z84
            generalize ts.getD 85 undef = z85
            generalize ts.getD 86 undef = z86
            generalize ts.getD 87 undef = z87
            generalize ts.getD 88 undef = z88
            generalize ts.getD 89 undef = z89
            generalize ts.getD 90 undef = z90
            generalize ts.getD 91 undef = z91
            generalize ts.getD 92 undef = z92
            generalize ts.getD 93 undef = z93
            generalize ts.getD 94 undef = z94
            generalize ts.getD 95 undef = z95
            generalize ts.getD 96 undef = z96
            generalize ts.getD 97 undef = z97
            generalize ts.getD 98 undef = z98
            generalize ts.getD 99 undef = z99
            generalize ts.getD 100 undef = z100
            generalize ts.getD 101 undef = z101
            generalize ts.getD 102 undef = z102
            clear ts
            refine wpIn_seq_k ?_
            intro KC hKC
            obtain ⟨PC, hPC⟩ : ∃ PC : Act → World → Prop, ∀ a W, PC a W ↔ (a.defers = [] ∧ SlotsB nb rb mx kb qb rwb sb x a.tmps ∧ ∃ v mo rv l sn, DS nb W4.heap.size nb rb pb mx sm kb (sb :: Bs :: Ds) qb rwb nx w k (40 + 3 * k + 3) W v mo rv l l sn ∧ Fx W4.heap.size Ds Bs qb sb true W ∧ KeepsFrom W4.heap.size W5 W) := ⟨_, fun _ _ => Iff.rfl⟩
            have RESTC : ∀ a W, PC a W → KC a W := by
              rintro ⟨ts, ds⟩ W9 hp
              obtain ⟨hds, ⟨hsz, e4, e6, e7, e9, e12, e13, e14, e15⟩, v9, mo9, rv9, l9, sn9, d9, f9, k9⟩ := (hPC _ _).1 hp
              refine hKC _ _ ?_
              clear hKC hp hPC d7 f7 k7
              simp only at hds hsz e4 e6 e7 e9 e12 e13 e14 e15
              subst hds
              rw [frame103 ts hsz]
              simp only [e4, e6, e7, e9, e12, e13, e14, e15]
              clear e4 e6 e7 e9 e12 e13 e14 e15 hsz
              generalize ts.getD 0 undef = y0
              generalize ts.getD 1 undef = y1
              generalize ts.getD 2 undef = y2
              generalize ts.getD 3 undef = y3
              generalize ts.getD 5 undef = y5
              generalize ts.getD 8 undef = y8
              generalize ts.getD 10 undef = y10
              generalize ts.getD 11 undef = y11
              generalize ts.getD 16 undef = y16
              generalize ts.getD 17 undef = y17
              generalize ts.getD 18 undef = y18
              generalize ts.getD 19 undef = y19
              generalize ts.getD 20 undef = y20
              generalize ts.getD 21 undef = y21
              generalize ts.getD 22 undef = y22
              generalize ts.getD 23 undef = y23
              generalize ts.getD 24 undef = y24
              generalize ts.getD 25 undef = y25
              generalize ts.getD 26 undef = y26
              generalize ts.getD 27 undef = y27
              generalize ts.getD 28 undef = y28
              generalize ts.getD 29 undef = y29
              generalize ts.getD 30 undef = y30
              generalize ts.getD 31 undef = y31
              generalize ts.getD 32 undef = y32
              generalize ts.getD 33 undef = y33
              generalize ts.getD 34 undef = y34
              generalize ts.getD 35 undef = y35
              generalize ts.getD 36 undef = y36
              generalize ts.getD 37 undef = y37
              generalize ts.getD 38 undef = y38
              generalize ts.getD 39 undef = y39
              generalize ts.getD 40 undef = y40
              generalize ts.getD 41 undef = y41
              generalize ts.getD 42 undef = y42
              generalize ts.getD 43 undef = y43
              generalize ts.getD 44 undef = y44
              generalize ts.getD 45 undef = y45
              generalize ts.getD 46 undef = y46
              generalize ts.getD 47 undef = y47
              generalize ts.getD 48 undef = y48
              generalize ts.getD 49 undef = y49
              generalize ts.getD 50 undef = y50
              generalize ts.getD 51 undef = y51
              generalize ts.getD 52 undef = y52
              generalize ts.getD 53 undef = y53
              generalize ts.getD 54 undef = y54
              generalize ts.getD 55 undef = y55
              generalize ts.getD 56 undef = y56
              generalize ts.getD 57 undef = y57
              generalize ts.getD 58 undef = y58
              generalize ts.getD 59 undef = y59
              generalize ts.getD 60 undef = y60
              generalize ts.getD 61 undef = y61
              generalize ts.getD 62 undef = y62
              generalize ts.getD 63 undef = y63
              generalize ts.getD 64 undef = y64
              generalize ts.getD 65 undef = y65
              generalize ts.getD 66 undef = y66
              generalize ts.getD 67 undef = y67
              generalize ts.getD 68 undef = y68
              generalize ts.getD 69 undef = y69
              generalize ts.getD 70 undef = y70
              generalize ts.getD 71 undef = y71
              generalize ts.getD 72 undef = y72
              generalize ts.getD 73 undef = y73
              generalize ts.getD 74 undef = y74
              generalize ts.getD 75 undef = y75
              generalize ts.getD 76 undef = y76
              generalize ts.getD 77 undef = y77
              generalize ts.getD 78 undef = y78
              generalize ts.getD 79 undef = y79
              generalize ts.getD 80 undef = y80
              generalize ts.getD 81 undef = y81
              generalize ts.getD 82 undef = y82
              generalize ts.getD 83 undef = y83
              generalize ts.getD 84 undef = y84
              generalize ts.getD 85 undef = y85
              generalize ts.getD 86 undef = y86
              generalize ts.getD 87 undef = y87
              generalize ts.getD 88 undef = y88
              generalize ts.getD 89 undef = y89
              generalize ts.getD 90 undef = y90
              generalize ts.getD 91 undef = y91
              generalize ts.getD 92 undef = y92
              generalize ts.getD 93 undef = y93
              generalize ts.getD 94 undef = y94
              generalize ts.getD 95 undef = y95
              generalize ts.getD 96 undef = y96
              generalize ts.getD 97 undef = y97
              generalize ts.getD 98 undef = y98
              generalize ts.getD 99 undef = y99
              generalize ts.getD 100 undef = y100
              generalize ts.getD 101 undef = y101
              generalize ts.getD 102 undef = y102
              clear ts
              obtain ⟨dZ, sZ⟩ := ds_k d9 hB (k + 1)
              rw [show ((k + 1 : Nat) : Int) = (k : Int) + 1 by omega] at dZ sZ
              have ckA := d9.reads.2.2.2.1
              have fkA := d9.reads.2.2.2.2.1
              have ckZ := dZ.reads.2.2.2.1
              rw [show ((k + 1 : Nat) : Int) = (k : Int) + 1 by omega] at ckZ
              have fZ := hid (fx_step f9 sZ)
              have kZ := hid (k9.trans sZ.kf)
              have DZ := hid (dZ.up (c' := 40 + 3 * (k + 1)) (by omega))
              clear dZ sZ d9 f9 k9
              by_cases h3 : (k + 1) % 3 = 0
              · have h3' : ((k : Int) + 1) % 3 = 0 := by omega
                have H3 := hid h3
                clear h3
                gi_wp2
                exact ⟨kZ.out, rfl, k + 1, true, _, _, _, _, _, DZ.out, fZ.out, by omega, by omega, fun _ => by omega⟩
              · have h3' : ¬ ((k : Int) + 1) % 3 = 0 := by omega
                have H3 := hid h3
                clear h3
                gi_wp2
                exact ⟨kZ.out, 3 - (k + 1) % 3, by have := H3.out; omega, k + 1, true, _, _, _, _, _, DZ.out, fZ.out, by omega, rfl, by have := H3.out; omega, fun h => (by cases h), fun _ => by omega⟩
            clear hKC
            obtain ⟨c1, c2, c3, c4, c5, c6⟩ := d7.reads
            have cnx := c6 x.toNat _ g1
            clear c6
            obtain ⟨sz7, m7⟩ := d7.smo
            have lk7 := in_look m7 hx0 (by omega)
            clear m7
            cases hseen : hasI x sn5 with
            | true =>
              rw [hseen] at lk7
              have D8 := hid (d7.up (c' := 40 + 3 * k + 3) (by omega))
              have F8 := hid f7
              have K8 := hid k7
              clear d7 f7 k7
              gi_wp2_with (gi_at_lookup; refine wpListIn_lookup_to _ rfl _ _ _ false rfl rfl rfl lk7 ?_)
              exact (hPC _ _).2 ⟨rfl, ⟨rfl, rfl, rfl, rfl, rfl, rfl, rfl, rfl, rfl⟩, _, _, _, _, _, D8.out, F8.out, K8.out⟩
            | false =>
              rw [hseen] at lk7
              obtain ⟨W8, st8, d8, s8⟩ := ds_mark d7 hB (by omega) hx0 hx1
              have f8 := fx_step f7 s8
              have k8 := k7.trans s8.kf
              clear d7 f7 k7 s8
              have tdr : Tch [] W8 W8.drew := (Tch.refl [] W8).drew
              have d9 := d8.else tdr (by simp) (by simp) (tdr.below (bel_sz d8.bel hB) (by simp))
              have f9 := f8.grown (W' := W8.drew) (row := none) ⟨rfl, rfl, rfl, Nat.le_refl _, fun _ _ _ => rfl⟩ (fun r e => by cases e)
              have k9 := k8.trans (KeepsFrom.of_grownBy (W' := W8.drew) (row := none) ⟨rfl, rfl, rfl, Nat.le_refl _, fun _ _ _ => rfl⟩ (fun j e => by cases e))
              have crow9 := d9.reads.1
              have hcon9 := contains_I _ _ (g % 16) _ d9.q2.row (by omega)
              have hput := ds_put d9 hB (by omega) y0 y1 hsome
              clear d8 f8 k8 d9 tdr
              gi_wp2_with (first | (gi_at_lookup; refine wpListIn_lookup_to _ rfl _ _ _ false rfl rfl rfl lk7 ?_) | (gi_at_mapUpdate; refine wpListIn_update_to _ rfl _ _ _ _ rfl rfl rfl rfl st8 ?_))
              rename_i KB hKB
              cases hyr : hasI (g % 16) r with
              | true =>
                simp only [hyr, Bool.not_true, Bool.not_false, if_true, Bool.false_eq_true, if_false] at hput hcon9
                have RESTB : ∀ a W, (a.defers = [] ∧ SlotsB nb rb mx kb qb rwb sb x a.tmps ∧ a.tmps.getD 16 undef = .int .i64 (g % 16) ∧ a.tmps.getD 81 undef = .bool false ∧ ∃ v, DS nb W4.heap.size nb rb pb mx sm kb (sb :: Bs :: Ds) qb rwb nx w k (40 + 3 * k + 1 + 1) W v mo5 u r r (x :: sn5) ∧ Fx W4.heap.size Ds Bs qb sb true W ∧ KeepsFrom W4.heap.size W5 W) → KB a W := by
                  rintro ⟨ts, ds⟩ W10 ⟨hds, ⟨hsz, e4, e6, e7, e9, e12, e13, e14, e15⟩, e16, e81, v10, d10, f10, k10⟩
                  refine hKB _ _ ?_
                  simp only at hds hsz e4 e6 e7 e9 e12 e13 e14 e15 e16 e81
                  subst hds
                  rw [frame103 ts hsz]
                  simp only [e4, e6, e7, e9, e12, e13, e14, e15, e16, e81]
                  clear e4 e6 e7 e9 e12 e13 e14 e15 e16 e81 hsz
                  generalize ts.getD 0 undef = z0
                  generalize ts.getD 1 undef = z1
                  generalize ts.getD 2 undef = z2
                  generalize ts.getD 3 undef = z3
                  generalize ts.getD 5 undef = z5
                  generalize ts.getD 8 undef = z8
                  generalize ts.getD 10 undef = z10
                  generalize ts.getD 11 undef = z11
                  generalize ts.getD 17 undef = z17
                  generalize ts.getD 18 undef = z18
                  generalize ts.getD 19 undef = z19
                  generalize ts.getD 20 undef = z20
                  generalize ts.getD 21 undef = z21
                  generalize ts.getD 22 undef = z22
                  generalize ts.getD 23 undef = z23
                  generalize ts.getD 24 undef = z24
                  generalize ts.getD 25 undef = z25
                  generalize ts.getD 26 undef = z26
                  generalize ts.getD 27 undef = z27
                  generalize ts.getD 28 undef = z28
                  generalize ts.getD 29 undef = z29
                  generalize ts.getD 30 undef = z30
                  generalize ts.getD 31 undef = z31
                  generalize ts.getD 32 undef = z32
                  generalize ts.getD 33 undef = z33
                  generalize ts.getD 34 undef = z34
                  generalize ts.getD 35 undef = z35
                  generalize ts.getD 36 undef = z36
                  generalize ts.getD 37 undef = z37
                  generalize ts.getD 38 undef = z38
                  generalize ts.getD 39 undef = z39
                  generalize ts.getD 40 undef = z40
                  generalize ts.getD 41 undef = z41
                  generalize ts.getD 42 undef = z42
                  generalize ts.getD 43 undef = z43
                  generalize ts.getD 44 undef = z44
                  generalize ts.getD 45 undef = z45
                  generalize ts.getD 46 undef = z46
                  generalize ts.getD 47 undef = z47
                  generalize ts.getD 48 undef = z48
                  generalize ts.getD 49 undef = z49
                  generalize ts.getD 50 undef = z50
                  generalize ts.getD 51 undef = z51
                  generalize ts.getD 52 undef = z52
                  generalize ts.getD 53 undef = z53
                  generalize ts.getD 54 undef = z54
                  generalize ts.getD 55 undef = z55
                  generalize ts.getD 56 undef = z56
                  generalize ts.getD 57 undef = z57
                  generalize ts.getD 58 undef = z58
                  generalize ts.getD 59 undef = z59
                  generalize ts.getD 60 undef = z60
                  generalize ts.getD 61 undef = z61
                  generalize ts.getD 62 undef = z62
                  generalize ts.getD 63 undef = z63
                  generalize ts.getD 64 undef = z64
                  generalize ts.getD 65 undef = z65
                  generalize ts.getD 66 undef = z66
                  generalize ts.getD 67 undef = z67
                  generalize ts.getD 68 undef = z68
                  generalize ts.getD 69 undef = z69
                  generalize ts.getD 70 undef = z70
                  generalize ts.getD 71 undef = z71
                  generalize ts.getD 72 undef = z72
                  generalize ts.getD 73 undef = z73
                  generalize ts.getD 74 undef = z74
                  generalize ts.getD 75 undef = z75
                  generalize ts.getD 76 undef = z76
                  generalize ts.getD 77 undef = z77
                  generalize ts.getD 78 undef = z78
                  generalize ts.getD 79 undef = z79
                  generalize ts.getD 80 undef = z80
                  generalize ts.getD 82 undef = z82
                  generalize ts.getD 83 undef = z83
                  generalize ts.getD 84 undef = z84
                  generalize ts.getD 85 undef = z85
                  generalize ts.getD 86 undef = z86
                  generalize ts.getD 87 undef = z87
                  generalize ts.getD 88 undef = z88
                  generalize ts.getD 89 undef = z89
                  generalize ts.getD 90 undef = z90
                  generalize ts.getD 91 undef = z91
                  generalize ts.getD 92 undef = z92
                  generalize ts.getD 93 undef = z93
                  generalize ts.getD 94 undef = z94
                  generalize ts.getD 95 undef = z95
                  generalize ts.getD 96 undef = z96
                  generalize ts.getD 97 undef = z97
                  generalize ts.getD 98 undef = z98
                  generalize ts.getD 99 undef = z99
                  generalize ts.getD 100 undef = z100
                  generalize ts.getD 101 undef = z101
                  generalize ts.getD 102 undef = z102
                  clear ts
                  have crow := d10.reads.1
                  have hcon := contains_I _ _ (g % 16) _ d10.q2.row (by omega)
                  rw [hyr] at hcon
                  have D10 := hid (d10.up (c' := 40 + 3 * k + 3) (by omega))
                  have F10 := hid f10
                  have K10 := hid k10
                  clear d10 f10 k10 hput hcon9 crow9 f9 k9
                  gi_wp2_with (gi_at_call 30; refine ((callsIn_wide (n := _)).2 hcon).mono ?_; rintro e w' ⟨rfl, rfl⟩)
                  exact (hPC _ _).2 ⟨rfl, ⟨rfl, rfl, rfl, rfl, rfl, rfl, rfl, rfl, rfl⟩, _, _, _, _, _, D10.out, F10.out, K10.out⟩
                clear hKB
                gi_region_with_o (first | (gi_at_call 29; refine ((callsIn_wide (n := _)).2 hput).mono ?_; rintro e W10 ⟨rfl, v10, d10, s10⟩; have crow10 := d10.reads.1; have hcon10 := contains_I _ _ (g % 16) _ d10.q2.row (by omega); rw [hyr] at hcon10; have D10 := hid d10; have F10 := hid (fx_step f9 s10); have K10 := hid (k9.trans s10.kf); clear d10 s10) | (gi_at_call 30; (first | (refine ((callsIn_wide (n := _)).2 hcon9).mono ?_) | (refine ((callsIn_wide (n := _)).2 hcon10).mono ?_)); rintro e w' ⟨rfl, rfl⟩))
                all_goals exact RESTB _ _ ⟨rfl, ⟨rfl, rfl, rfl, rfl, rfl, rfl, rfl, rfl, rfl⟩, rfl, rfl, _, D10.out, F10.out, K10.out⟩
              | false =>
                simp only [hyr, Bool.not_true, Bool.not_false, if_true, Bool.false_eq_true, if_false] at hput hcon9
                have RESTB : ∀ a W, (a.defers = [] ∧ SlotsB nb rb mx kb qb rwb sb x a.tmps ∧ a.tmps.getD 16 undef = .int .i64 (g % 16) ∧ a.tmps.getD 81 undef = .bool false ∧ ∃ v, DS nb W4.heap.size nb rb pb mx sm kb (sb :: Bs :: Ds) qb rwb nx w k (40 + 3 * k + 1 + 1) W v mo5 u (r ++ [g % 16]) r (x :: sn5) ∧ Fx W4.heap.size Ds Bs qb sb true W ∧ KeepsFrom W4.heap.size W5 W) → KB a W := by
                  rintro ⟨ts, ds⟩ W10 ⟨hds, ⟨hsz, e4, e6, e7, e9, e12, e13, e14, e15⟩, e16, e81, v10, d10, f10, k10⟩
                  refine hKB _ _ ?_
                  simp only at hds hsz e4 e6 e7 e9 e12 e13 e14 e15 e16 e81
                  subst hds
                  rw [frame103 ts hsz]
                  simp only [e4, e6, e7, e9, e12, e13, e14, e15, e16, e81]
                  clear e4 e6 e7 e9 e12 e13 e14 e15 e16 e81 hsz
                  generalize ts.getD 0 undef = z0
                  generalize ts.getD 1 undef = z1
                  generalize ts.getD 2 undef = z2
                  generalize ts.getD 3 undef = z3
                  generalize ts.getD 5 undef = z5
                  generalize ts.getD 8 undef = z8
                  generalize ts.getD 10 undef = z10
                  generalize ts.getD 11 undef = z11
                  generalize ts.getD 17 undef = z17
                  generalize ts.getD 18 undef = z18
                  generalize ts.getD 19 undef = z19
                  generalize ts.getD 20 undef = z20
                  generalize ts.getD 21 undef = z21
                  generalize ts.getD 22 undef = z22
                  generalize ts.getD 23 undef = z23
                  generalize ts.getD 24 undef = z24
                  generalize ts.getD 25 undef = z25
                  generalize ts.getD 26 undef = z26
                  generalize ts.getD 27 undef = z27
                  generalize ts.getD 28 undef = z28
                  generalize ts.getD 29 undef = z29
                  generalize ts.getD 30 undef = z30
                  generalize ts.getD 31 undef = z31
                  generalize ts.getD 32 undef = z32
                  generalize ts.getD 33 undef = z33
                  generalize ts.getD 34 undef = z34
                  generalize ts.getD 35 undef = z35
                  generalize ts.getD 36 undef = z36
                  generalize ts.getD 37 undef = z37
                  generalize ts.getD 38 undef = z38
                  generalize ts.getD 39 undef = z39
                  generalize ts.getD 40 undef = z40
                  generalize ts.getD 41 undef = z41
                  generalize ts.getD 42 undef = z42
                  generalize ts.getD 43 undef = z43
                  generalize ts.getD 44 undef = z44
                  generalize ts.getD 45 undef = z45
                  generalize ts.getD 46 undef = z46
                  generalize ts.getD 47 undef = z47
                  generalize ts.getD 48 undef = z48
                  generalize ts.getD 49 undef = z49
                  generalize ts.getD 50 undef = z50
                  generalize ts.getD 51 undef = z51
                  generalize ts.getD 52 undef = z52
                  generalize ts.getD 53 undef = z53
                  generalize ts.getD 54 undef = z54
                  generalize ts.getD 55 undef = z55
                  generalize ts.getD 56 undef = z56
                  generalize ts.getD 57 undef = z57
                  generalize ts.getD 58 undef = z58
                  generalize ts.getD 59 undef = z59
                  generalize ts.getD 60 undef = z60
                  generalize ts.getD 61 undef = z61
                  generalize ts.getD 62 undef = z62
                  generalize ts.getD 63 undef = z63
                  generalize ts.getD 64 undef = z64
                  generalize ts.getD 65 undef = z65
                  generalize ts.getD 66 undef = z66
                  generalize ts.getD 67 undef = z67
                  generalize ts.getD 68 undef = z68
                  generalize ts.getD 69 undef = z69
                  generalize ts.getD 70 undef = z70
                  generalize ts.getD 71 undef = z71
                  generalize ts.getD 72 undef = z72
                  generalize ts.getD 73 undef = z73
                  generalize ts.getD 74 undef = z74
                  generalize ts.getD 75 undef = z75
                  generalize ts.getD 76 undef = z76
                  generalize ts.getD 77 undef = z77
                  generalize ts.getD 78 undef = z78
                  generalize ts.getD 79 undef = z79
                  generalize ts.getD 80 undef = z80
                  generalize ts.getD 82 undef = z82
                  generalize ts.getD 83 undef = z83
                  generalize ts.getD 84 undef = z84
                  generalize ts.getD 85 undef = z85
                  generalize ts.getD 86 undef = z86
                  generalize ts.getD 87 undef = z87
                  generalize ts.getD 88 undef = z88
                  generalize ts.getD 89 undef = z89
                  generalize ts.getD 90 undef = z90
                  generalize ts.getD 91 undef = z91
                  generalize ts.getD 92 undef = z92
                  generalize ts.getD 93 undef = z93
                  generalize ts.getD 94 undef = z94
                  generalize ts.getD 95 undef = z95
                  generalize ts.getD 96 undef = z96
                  generalize ts.getD 97 undef = z97
                  generalize ts.getD 98 undef = z98
                  generalize ts.getD 99 undef = z99
                  generalize ts.getD 100 undef = z100
                  generalize ts.getD 101 undef = z101
                  generalize ts.getD 102 undef = z102
                  clear ts
                  have crow := d10.reads.1
                  have hcon := contains_I _ _ (g % 16) _ d10.q2.row (by omega)
                  rw [hyr] at hcon
                  obtain ⟨b2, o2, cp2, w11, p1, p2, p3, d11, s11⟩ := ds_app d10 hB (by omega) (g % 16)
                  have D11 := hid d11
                  have F11 := hid (fx_step f10 s11)
                  have K11 := hid (k10.trans s11.kf)
                  clear d10 f10 k10 d11 s11 hput hcon9 crow9 f9 k9
                  gi_wp2_with (first | (gi_at_call 30; refine ((callsIn_wide (n := _)).2 hcon).mono ?_; rintro e w' ⟨rfl, rfl⟩) | (gi_at_builtin; refine wpListIn_append_to _ rfl _ _ _ _ rfl rfl rfl p1 ?_))
                  exact (hPC _ _).2 ⟨rfl, ⟨rfl, rfl, rfl, rfl, rfl, rfl, rfl, rfl, rfl⟩, _, _, _, _, _, D11.out, F11.out, K11.out⟩
                clear hKB
                gi_region_with_o (first | (gi_at_call 29; refine ((callsIn_wide (n := _)).2 hput).mono ?_; rintro e W10 ⟨rfl, v10, d10, s10⟩; have crow10 := d10.reads.1; have hcon10 := contains_I _ _ (g % 16) _ d10.q2.row (by omega); rw [hyr] at hcon10; have D10 := hid d10; have F10 := hid (fx_step f9 s10); have K10 := hid (k9.trans s10.kf); clear d10 s10) | (gi_at_call 30; (first | (refine ((callsIn_wide (n := _)).2 hcon9).mono ?_) | (refine ((callsIn_wide (n := _)).2 hcon10).mono ?_)); rintro e w' ⟨rfl, rfl⟩))
                all_goals exact RESTB _ _ ⟨rfl, ⟨rfl, rfl, rfl, rfl, rfl, rfl, rfl, rfl, rfl⟩, rfl, rfl, _, D10.out, F10.out, K10.out⟩
          clear hKA
          rcases hu with ⟨hcap, hr0, rfl⟩ | ⟨hcap, rfl⟩
          · have HR0 := hid hr0
            have hr0l : r.length = 0 := by rw [hr0]; rfl
            clear hr0
            subst hcap
            rw [hr0l] at crow6
            gi_wp2_with fail
            exact (hPA _ _).2 ⟨rfl, ⟨rfl, rfl, rfl, rfl, rfl, rfl, rfl, rfl, rfl⟩, _, D7.out, F7.out, K7.out⟩
          · gi_wp2_with fail
            exact (hPA _ _).2 ⟨rfl, ⟨rfl, rfl, rfl, rfl, rfl, rfl, rfl, rfl, rfl⟩, _, D7.out, F7.out, K7.out⟩
        case stop =>
          rintro D0 c W5 hD0 ⟨rfl, hin⟩ hK
          obtain ⟨k, bs, v5, mo5, rv5, l5, sn5, d5, f5, h1, h2, h3⟩ := hin
          have csb : W5.cell? ⟨sb, 0, none⟩ = some (.bool bs) := by rw [cell_of_row _ _ 0 _ _ _ f5.so]; rfl
          have hO : Hid (OuterE nb nb rb pb mx sm kb qb rwb nx w st k (D0 :: Ds) W5) := ⟨v5, mo5, rv5, l5, sn5, List.nodup_cons.2 ⟨fun hm => by have := (f5.ds D0 hm).1; omega, hnd⟩, fun D hd => by
              rcases List.mem_cons.1 hd with e | e
              · rw [e]; exact hK
              · exact (f5.ds D e).2, ds_marked d5 hBW4 hK hD0 (fun b hb => by simp [hb]), by omega⟩
          clear d5 f5
          cases bs with
          | true =>
            have hk' := h3 rfl
            refine wpIn_exit ?_
            go_wp2_with fail
            refine Handed.intro (50 - k) (by omega) (hJ _ _ _ ⟨k, ⟨⟨rfl, rfl, rfl, rfl, rfl, rfl, rfl, rfl, rfl⟩, D0 :: Ds, ?_⟩, rfl⟩)
            obtain ⟨v, mo, rv, l, sn, h⟩ := hO.out
            exact ⟨v, mo, rv, l, sn, rfl, h⟩
          | false =>
            refine wpIn_exit ?_
            go_wp2_with fail
            refine ⟨k, ⟨rfl, rfl, rfl, rfl, rfl, rfl, rfl, rfl, rfl⟩, D0 :: Ds, ?_⟩
            obtain ⟨v, mo, rv, l, sn, h⟩ := hO.out
            exact ⟨v, mo, rv, l, sn, rfl, h⟩
        case done =>
          rintro D0 W5 hD0 hin hK
          obtain ⟨k, bs, v5, mo5, rv5, l5, sn5, d5, f5, h1, h2, h3⟩ := hin
          have csb : W5.cell? ⟨sb, 0, none⟩ = some (.bool bs) := by rw [cell_of_row _ _ 0 _ _ _ f5.so]; rfl
          have hO : Hid (OuterE nb nb rb pb mx sm kb qb rwb nx w st k (D0 :: Ds) W5) := ⟨v5, mo5, rv5, l5, sn5, List.nodup_cons.2 ⟨fun hm => by have := (f5.ds D0 hm).1; omega, hnd⟩, fun D hd => by
              rcases List.mem_cons.1 hd with e | e
              · rw [e]; exact hK
              · exact (f5.ds D e).2, ds_marked d5 hBW4 hK hD0 (fun b hb => by simp [hb]), by omega⟩
          clear d5 f5
          cases bs with
          | true =>
            have hk' := h3 rfl
            go_wp2_with fail
            refine Handed.intro (50 - k) (by omega) (hJ _ _ _ ⟨k, ⟨⟨rfl, rfl, rfl, rfl, rfl, rfl, rfl, rfl, rfl⟩, D0 :: Ds, ?_⟩, rfl⟩)
            obtain ⟨v, mo, rv, l, sn, h⟩ := hO.out
            exact ⟨v, mo, rv, l, sn, rfl, h⟩
          | false =>
            go_wp2_with fail
            refine ⟨k, ⟨rfl, rfl, rfl, rfl, rfl, rfl, rfl, rfl, rfl⟩, D0 :: Ds, ?_⟩
            obtain ⟨v, mo, rv, l, sn, h⟩ := hO.out
            exact ⟨v, mo, rv, l, sn, rfl, h⟩
      · have hO : OuterE nb nb rb pb mx sm kb qb rwb nx w st k2 Ds W := ⟨v2, mo2, rv2, l2, sn2, hnd, hD, hDS, hk2⟩
        clear hDS hD
        go_wp2_with fail
        exact ⟨k2, ⟨rfl, rfl, rfl, rfl, rfl, rfl, rfl, rfl, rfl⟩, Ds, by obtain ⟨v, mo, rv, l, sn, h⟩ := hO; exact ⟨v, mo, rv, l, sn, rfl, h⟩⟩
end Go.Proofs.Ytfokekciemofiaa
