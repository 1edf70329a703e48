
/- DomAll (P8.1): its walk. -/
import Derived.Test.YtpmdeilnkholgaaDi
import Derived.Test.YtpmdeilnkholgaaDh
import Derived.Test.YtpmdeilnkholgaaEqI
import Derived.Test.YtpmdeilnkholgaaHlz
import Derived.Lib.MinMax
import Derived.Deep.RegionHeld3
import Derived.Maps.AppendAt
set_option linter.unusedSimpArgs false
set_option linter.unusedVariables false
namespace Go.Proofs.Ytpmdeilnkholgaa
open Go.RowKit Go.Sort Go.Maps Go.Shelf
attribute [local go_sem] Oper.semAt_some

theorem cf_tD {w w' : World} {b : Nat} {v : Value} {T : TypeId} (t : Tch [] w w') (h : w.heap[b]? = some (.cells #[v] T (0, 0))) : w'.cell? ⟨b, 0, none⟩ = some v ∧ w'.frozen? ⟨b, 0, none⟩ = false ∧ w'.heap[b]? = some (.cells #[v] T (0, 0)) := by
  have h1 := t.obj h (by simp)
  exact ⟨by rw [cell_of_row _ _ _ _ _ _ h1]; rfl, frozen_of_row _ _ _ _ _ h1, h1⟩
theorem TrV.lt {w : World} {mb : Nat} {vp vu ve : Value} {pl up en : List Int} (h : TrV w mb vp vu ve pl up en) : ∀ k ∈ trB vp vu ve, k < w.heap.size := fun k hk => by
  simp only [trB, List.mem_append] at hk
  rcases hk with (hk | hk) | hk
  · exact h.p.lt k hk
  · exact h.u.lt k hk
  · exact h.e.lt k hk
theorem DTree.end0 {F : Int → List Int} {pl up : List Int} {enf : Nat → Int} {pr : Nat → Nat} (h : DTree F pl up enf pr) : enf 0 = pl.length := by
  have hp : 0 < pl.length := (List.getElem?_eq_some_iff.1 h.z).1
  obtain ⟨_, j, hj, e, _⟩ := h.en 0 hp
  have h2 := ((h.en.fin h.dfo hp (j := pl.length - 1) (by omega)).2 (h.dfo.anc_zero _ (by omega))).2
  omega
theorem DTree.sg_all {F : Int → List Int} {pl up : List Int} {enf : Nat → Int} {pr : Nat → Nat} (h : DTree F pl up enf pr) : sg pl 0 (enf 0).toNat = pl := by
  rw [h.end0]; unfold sg; simp
set_option maxRecDepth 100000 in
set_option maxHeartbeats 60000000 in
theorem domAll_light (N : Int) (ea : Option Addr) (ec : Nat) (es : List (Int × Int)) (st : Int) (w : World) (hE : EdgOk w N (.slice ea es.length ec) es) (hst : 0 ≤ st ∧ st ≤ 255) (hL : es.length ≤ 40) :
    Calls Try.prog 3 #[.agg #[.int .u8 N, .slice ea es.length ec], .int .u8 st] w fun e w' => e = .returned (.bool true) ∧ Tch [] w w' := by
  obtain ⟨n, hn, hn1, hn2⟩ := edg_n hE.r
  have HE := hid hE
  have HN := hid hn
  have hm : Try.prog.follows .mixedOrders = true := by kernel_rfl
  clear hE hn
  refine calls_marks Try.func3 rfl ?_
  simp only [Try.ntmps3, List.size_toArray, List.length_cons, List.length_nil, Nat.reduceAdd, Nat.reduceSub, Array.replicate_succ, Array.replicate_zero, List.push_toArray, List.append_toArray, List.nil_append, List.cons_append]
  go_upto_region 1 with fail
  generalize hW0 : ((w.alloc (.cells #[.int .u8 N, .slice ea es.length ec] 24)).alloc (.cells #[.int .u8 st] 5)).alloc (.cells #[.bool false] 4) = w0 at *
  have T0 : Hid (Tch [] w w0) := by rw [← hW0]; exact (((Tch.refl [] w).alloc _).alloc _).alloc _
  have s0 : w0.heap.size = w.heap.size + 1 + 1 + 1 := by rw [← hW0]; simp
  have O0 : Hid (w0.heap[w.heap.size]? = some (.cells #[.int .u8 N, .slice ea es.length ec] 24 (0, 0))) := by rw [← hW0]; exact (((Gr.refl _).alloc _).alloc _).obj (heap_alloc_new w _)
  have Q0 : Hid (w0.heap[w.heap.size + 1]? = some (.cells #[.int .u8 st] 5 (0, 0))) := by
    rw [← hW0]
    have := ((Gr.refl _).alloc (.cells #[.bool false] 4)).obj (heap_alloc_new (w.alloc (.cells #[.int .u8 N, .slice ea es.length ec] 24)) (.cells #[.int .u8 st] 5))
    exact hid (by simpa using this)
  have R0 : Hid (w0.heap[w.heap.size + 1 + 1]? = some (.cells #[.bool false] 4 (0, 0))) := by
    rw [← hW0]
    have := heap_alloc_new ((w.alloc (.cells #[.int .u8 N, .slice ea es.length ec] 24)).alloc (.cells #[.int .u8 st] 5)) (.cells #[.bool false] 4)
    exact hid (by simpa using this)
  clear hW0
  have HA := hid (awake_d w0)
  go_upto_region 3 with (go_at_call 8; refine HA.out.mono ?_; rintro e w1 ⟨rfl, t1⟩; have T01 := hid t1; have O1 := hid (t1.obj O0.out (by simp)); clear t1)
  have y0 := cell_of_row _ _ 0 _ _ _ O1.out
  have y1 := cell_of_row _ _ 1 _ _ _ O1.out
  simp only [List.getElem?_toArray, List.getElem?_cons_zero, List.getElem?_cons_succ] at y0 y1
  have HLi := hid (lightG_any N ea es.length ec w1)
  rw [show decide (((es.length : Nat) : Int) ≤ 40) = true by simp; omega] at HLi
  clear HA O0
  go_upto_region 5 with (go_at_call 9; refine HLi.out.mono ?_; rintro e w2 ⟨rfl, g2⟩; have T02 := hid (T01.out.trans g2.tch); replace y0 := g2.val y0; replace y1 := g2.val y1; clear g2)
  have HS := hid (sgraph_any N (.slice ea es.length ec) es n w2 (HE.out.r) HN.out (HE.out.tch (T0.out.trans T02.out)).c HE.out.w (by omega))
  clear HLi T01 O1
  go_upto_region 6 with (go_at_call 10; refine HS.out.mono ?_; rintro e w3 ⟨K, lo, bm, am, lb, vF, vA, vL, A, rfl, gl3, fa3, t3, hK, q1, q2, q3⟩; have GL3 := hid gl3; have FA3 := hid fa3; have T03 := hid (T02.out.trans t3); clear gl3 fa3 t3)
  generalize hF : edgF n es = F at *
  have t4 : Tch [] w3 (w3.alloc (.cells #[.int .i64 n, .map (some bm), .map (some am)] 28)) := (Tch.refl [] w3).alloc _
  have o4 := heap_alloc_new w3 (.cells #[.int .i64 n, .map (some bm), .map (some am)] 28)
  have s4 : (w3.alloc (.cells #[.int .i64 n, .map (some bm), .map (some am)] 28)).heap.size = w3.heap.size + 1 := by simp
  generalize w3.alloc (.cells #[.int .i64 n, .map (some bm), .map (some am)] 28) = w4 at *
  have GL4 := hid (GL3.out.tch t4)
  have T04 := hid (T03.out.trans t4)
  have O4 := hid o4
  have S34 : Hid (w0.heap.size ≤ w3.heap.size ∧ w4.heap.size = w3.heap.size + 1) := ⟨T03.out.size, s4⟩
  clear HS T02 q1 q2 q3 y0 y1 HE HN hF GL3 T03 t4 o4 s4
  generalize hgb : w3.heap.size = gb at *
  clear hgb
  have z0 := cell_of_row _ _ 0 _ _ _ O4.out
  have z1 := cell_of_row _ _ 1 _ _ _ O4.out
  have z2 := cell_of_row _ _ 2 _ _ _ O4.out
  simp only [List.getElem?_toArray, List.getElem?_cons_zero, List.getElem?_cons_succ] at z0 z1 z2
  have HOF := hid (of_all (n0 := n) GL4.out.g (FA3.out.mono (by omega)) (by omega) (by omega))
  go_upto_region 7 with (go_at_call 11; refine HOF.out.mono ?_; rintro e w5 ⟨mb, pa, pc, ua, uc, ea2, ec2, L, pl, up, enf, pr, rfl, tv, dt, hl, hL9, hpr, t5⟩; have TV := hid tv; have DT := hid dt; have HPR := hid hpr; have T5 := hid t5; clear tv dt t5 hpr)
  go_upto_region 10 with fail
  have e0 := ((Gr.refl _).alloc (.cells #[.slice none 0 0] 32)).alloc (.cells #[.func (.func 12) #[] #[.pointer (some ⟨w5.heap.size + 1, 0, none⟩), .pointer (some ⟨w5.heap.size, 0, none⟩), .pointer (some ⟨w5.heap.size + 1 + 1, 0, none⟩)]] 37) |>.obj (heap_alloc_new w5 (.cells #[.slice pa L pc, .slice ua L uc, .slice ea2 L ec2, .map (some mb)] 35))
  have e1 := ((Gr.refl _).alloc (.cells #[.func (.func 12) #[] #[.pointer (some ⟨w5.heap.size + 1, 0, none⟩), .pointer (some ⟨w5.heap.size, 0, none⟩), .pointer (some ⟨w5.heap.size + 1 + 1, 0, none⟩)]] 37)).obj (heap_alloc_new (w5.alloc (.cells #[.slice pa L pc, .slice ua L uc, .slice ea2 L ec2, .map (some mb)] 35)) (.cells #[.slice none 0 0] 32))
  have e2 := heap_alloc_new ((w5.alloc (.cells #[.slice pa L pc, .slice ua L uc, .slice ea2 L ec2, .map (some mb)] 35)).alloc (.cells #[.slice none 0 0] 32)) (.cells #[.func (.func 12) #[] #[.pointer (some ⟨w5.heap.size + 1, 0, none⟩), .pointer (some ⟨w5.heap.size, 0, none⟩), .pointer (some ⟨w5.heap.size + 1 + 1, 0, none⟩)]] 37)
  have g6 : Tch [] w5 (((w5.alloc (.cells #[.slice pa L pc, .slice ua L uc, .slice ea2 L ec2, .map (some mb)] 35)).alloc (.cells #[.slice none 0 0] 32)).alloc (.cells #[.func (.func 12) #[] #[.pointer (some ⟨w5.heap.size + 1, 0, none⟩), .pointer (some ⟨w5.heap.size, 0, none⟩), .pointer (some ⟨w5.heap.size + 1 + 1, 0, none⟩)]] 37)) := (((Tch.refl [] w5).alloc _).alloc _).alloc _
  have s6 : (((w5.alloc (.cells #[.slice pa L pc, .slice ua L uc, .slice ea2 L ec2, .map (some mb)] 35)).alloc (.cells #[.slice none 0 0] 32)).alloc (.cells #[.func (.func 12) #[] #[.pointer (some ⟨w5.heap.size + 1, 0, none⟩), .pointer (some ⟨w5.heap.size, 0, none⟩), .pointer (some ⟨w5.heap.size + 1 + 1, 0, none⟩)]] 37)).heap.size = w5.heap.size + 1 + 1 + 1 := by simp
  simp only [World.size_alloc] at e1 e2
  generalize ((w5.alloc (.cells #[.slice pa L pc, .slice ua L uc, .slice ea2 L ec2, .map (some mb)] 35)).alloc (.cells #[.slice none 0 0] 32)).alloc (.cells #[.func (.func 12) #[] #[.pointer (some ⟨w5.heap.size + 1, 0, none⟩), .pointer (some ⟨w5.heap.size, 0, none⟩), .pointer (some ⟨w5.heap.size + 1 + 1, 0, none⟩)]] 37) = w6 at *
  have HLF : Hid (∀ x, (F x).length ≤ 100) := FA3.out.lf
  have HRG := hid FA3.out.rngN
  have HR : Hid (∀ x, Rch F x → 0 ≤ x ∧ x < n) := fun x hx => FA3.out.rch (by omega) hx
  have ml := TV.out.m.lt
  have bl : ∀ k ∈ trB (.slice pa L pc) (.slice ua L uc) (.slice ea2 L ec2), k < w5.heap.size := TV.out.lt
  have LB := hid bl
  have TV6 := hid (TV.out.tch g6)
  have VD0 : Hid (Vd (w5.heap.size + 1) w6 w6 (.slice none 0 0) []) := ⟨e1, Sl.nil _ _ _, Tch.refl _ _, by simp [blks], by omega⟩
  have HW := hid (walkD_any (n := n) TV6.out DT.out hl.out hL9 HR.out (by omega) e0 e2 (by omega) (by omega) (by omega) (fun h => by have := bl _ h; omega) L 0 0 w6 _ [] (by omega) DT.out.z VD0.out (by simp))
  rw [List.nil_append, DT.out.sg_all] at HW
  have T46 := hid (T5.out.trans g6)
  have T06 := hid (T04.out.trans T46.out)
  have O6 := hid e0
  have c6 := cell_of_row _ _ 0 _ _ _ e2
  simp only [List.getElem?_toArray, List.getElem?_cons_zero] at c6
  have SZ : Hid (w0.heap.size = w.heap.size + 1 + 1 + 1 ∧ w0.heap.size ≤ gb ∧ gb < w4.heap.size ∧ w4.heap.size ≤ w5.heap.size ∧ w6.heap.size = w5.heap.size + 1 + 1 + 1) := ⟨s0, S34.out.1, by have := S34.out.2; omega, T5.out.size, s6⟩
  clear e0 e1 e2 g6 s6 bl ml VD0 TV S34 HOF z0 z1 z2
  generalize w5.heap.size = tb at *
  go_upto_region 11 with (go_at_call 12; refine HW.out.mono ?_; rintro e w7 ⟨rfl, vw, vd, t7, b7⟩; have VD := hid vd; have T7 : Hid (Tch [tb + 1] w6 w7) := t7.mono (by simp [blks]); clear vd t7 b7)
  obtain ⟨wa, wc, hvw⟩ := VD.out.s.shape
  subst hvw
  have BVW : Hid (∀ k ∈ blks (.slice wa pl.length wc), k < w7.heap.size) := VD.out.s.lt
  have o8 := heap_alloc_new w7 (.cells #[.slice none 0 0] 32)
  go_upto_region 12 with fail
  have t8 : Tch [] w7 (w7.alloc (.cells #[.slice none 0 0] 32)) := (Tch.refl [] w7).alloc _
  have s8 : (w7.alloc (.cells #[.slice none 0 0] 32)).heap.size = w7.heap.size + 1 := by simp
  generalize w7.alloc (.cells #[.slice none 0 0] 32) = w8 at *
  have VD8 := hid (VD.out.tch t8)
  have T68 : Hid (Tch [tb + 1] w6 w8) := T7.out.trans (t8.mono (by simp))
  have S8 : Hid (w6.heap.size ≤ w7.heap.size ∧ w8.heap.size = w7.heap.size + 1) := ⟨T7.out.size, s8⟩
  have G8 := hid o8
  clear VD T7 t8 s8 o8 c6 HW
  generalize w7.heap.size = gx at *
  have O8 := hid (T68.out.obj O6.out (by simp))
  have y0 := cell_of_row _ _ 0 _ _ _ O8.out
  have y1 := cell_of_row _ _ 1 _ _ _ O8.out
  have y2 := cell_of_row _ _ 2 _ _ _ O8.out
  have y3 := cell_of_row _ _ 3 _ _ _ O8.out
  simp only [List.getElem?_toArray, List.getElem?_cons_zero, List.getElem?_cons_succ] at y0 y1 y2 y3
  have t9 : Tch [] w8 (w8.alloc (.cells #[.slice pa L pc, .slice ua L uc, .slice ea2 L ec2, .map (some mb)] 35)) := (Tch.refl [] w8).alloc _
  have o9 := heap_alloc_new w8 (.cells #[.slice pa L pc, .slice ua L uc, .slice ea2 L ec2, .map (some mb)] 35)
  have s9 : (w8.alloc (.cells #[.slice pa L pc, .slice ua L uc, .slice ea2 L ec2, .map (some mb)] 35)).heap.size = w8.heap.size + 1 := by simp
  go_wp2_with (go_at_call 14; refine (all_any _ _ _ _ _).mono ?_; rintro e w9 ⟨rfl, rfl⟩)
  generalize w8.alloc (.cells #[.slice pa L pc, .slice ua L uc, .slice ea2 L ec2, .map (some mb)] 35) = w9 at *
  have c9 := cell_of_row _ _ 0 _ _ _ o9
  simp only [List.getElem?_toArray, List.getElem?_cons_zero] at c9
  have VD9 := hid (VD8.out.tch t9)
  have T69 : Hid (Tch [tb + 1] w6 w9) := T68.out.trans (t9.mono (by simp))
  have G9 := hid (t9.obj G8.out (by simp))
  have O9 := hid (t9.obj O8.out (by simp))
  have S9 : Hid (w8.heap.size = gx + 1 ∧ w9.heap.size = w8.heap.size + 1 ∧ tb + 1 + 1 < gx) := ⟨S8.out.2, s9, by have := S8.out.1; have := SZ.out; omega⟩
  have SP9 : Hid (Sl w9 3 1 (.slice pa L pc) pl.length (ivals pl)) := TV6.out.p.kept T69.out (fun k hk h1 => by simp at h1; have := LB.out k (by simp [trB, hk]); omega)
  have hLB : ∀ k ∈ blks (.slice pa L pc), k < tb := fun k hk => LB.out k (by simp [trB, hk])
  have Q6 := hid (T06.out.obj Q0.out (by simp))
  have R6 := hid (T06.out.obj R0.out (by simp))
  have O46 := hid (T46.out.obj O4.out (by simp))
  clear VD8 T68 G8 O8 t9 o9 s9 y0 y1 y2 y3
  generalize hbs : w8.heap.size = Bs at *
  have sx := S9.out
  have ssz := SZ.out
  have hl' := hl.out
  obtain ⟨i0, hi0, hz00, hz11, hz22⟩ := info_parts info_int
  obtain ⟨K8, hK8⟩ : ∃ K8 : Nat, st % 8 = (K8 : Int) := ⟨(st % 8).toNat, by omega⟩
  have hK8b : K8 < 8 := by omega
  have HVD : Hid (∀ W, Tch [gx] w9 W → Vd (tb + 1) w6 W (.slice wa pl.length wc) pl) := fun W t => ⟨t.obj VD9.out.o (by simp; omega), VD9.out.s.kept t (fun k hk h1 => by simp at h1; have := BVW.out k hk; omega), (VD9.out.t.trans2 t (fun k hk => .inr (by simp at hk; omega))), VD9.out.b, VD9.out.q⟩
  refine (wpIn_wide (n := 5)).1 ?_
  refine wpIn_range (fun (x : Int) t => (t.setIfInBounds 32 (.int .i64 x)).setIfInBounds 11 (.int .i64 x)) rfl (by decide) (gf := 39) (lb := #[.pointer (some ⟨Bs, 0, none⟩)]) rfl trivial (enters_of Try.func39 (by kernel_rfl) rfl)
    (all_stops 4 (by decide) Bs gx w9.heap.size (.slice pa L pc) pl (by omega) w9 (Nat.le_refl _) ⟨by omega, by omega⟩ c9 SP9.out (fun k hk => ⟨by have := hLB k hk; omega, by have := hLB k hk; omega⟩))
    (fun h k => h.trans k) (Bx.put (Nat.le_refl _)) (Below.refl _ _) (fun _ => rfl)
    (fun pre W => ((∃ v, Boxed W gx 32 v ∧ W.ownsRow w9.heap.size 3 1 v pre.length (valsI pre) ∧ True) ∧ Bx gx w9.heap.size w9 W) ∧ pre.length ≤ K8 + 1)
    (fun c ys W => ((∃ v, Boxed W gx 32 v ∧ W.ownsRow w9.heap.size 3 1 v ys.dropLast.length (valsI ys.dropLast) ∧ True) ∧ Bx gx w9.heap.size w9 W) ∧ c = .exit 0 ∧ ys.dropLast.length = K8 + 1)
    (fun s X Y row h g hr => ⟨(OwnFrom.and (Own.from (holdsRow_own w9.heap.size gx 32 3 1 (fun pre : List Int => pre.length) (fun pre => valsI pre) (fun pre v => True)) _) (bx_own (Nat.le_refl _) (Nat.le_refl _))) s X Y row h.1 g hr, h.2⟩)
    (fun c s X Y row h g hr => ⟨(OwnFrom.and (Own.from (holdsRow_own w9.heap.size gx 32 3 1 (fun pre : List Int => pre.dropLast.length) (fun pre => valsI pre.dropLast) (fun pre v => True)) _) (bx_own (Nat.le_refl _) (Nat.le_refl _))) s X Y row h.1 g hr, h.2⟩)
    ⟨⟨⟨_, G9.out, World.ownsRow_nil _ _ _ _, trivial⟩, Bx.refl _ _ _⟩, by simp⟩ ?assign ?body ?done ?stop
  case assign =>
    intro lp x W K hK
    clear sx ssz hl'
    gi_wp2
    simp only [List.setIfInBounds_toArray, List.set_cons_succ, List.set_cons_zero] at hK
    exact hK
  case body =>
    rintro lp pre x W ⟨⟨⟨v, hv, hrow, _⟩, hB⟩, hpl⟩ hlt
    obtain ⟨va, vc, rfl⟩ := (sl_of_own hrow).1.shape
    have hc := hv.cell
    have t9W : Tch [gx] w9 W := hB.tch
    have cq := cell_of_row _ _ 0 _ _ _ (t9W.obj (T69.out.obj Q6.out (by simp; omega)) (by simp; omega))
    simp only [List.getElem?_toArray, List.getElem?_cons_zero] at cq
    clear sx ssz hl'
    by_cases hfull : pre.length = K8 + 1
    · have hge : ((K8 : Int) < (pre.length : Int)) := by omega
      have HFU := hid hfull
      clear hfull
      gi_wp2
      exact ⟨(KeepsOthers.refl _).from _, ⟨⟨_, hv, by simpa using hrow, trivial⟩, hB⟩, by first | rfl | trivial, by simpa using HFU.out⟩
    · have hge : ¬ ((K8 : Int) < (pre.length : Int)) := by omega
      have HNF : Hid (pre.length < K8 + 1) := by show _ < _; omega
      clear hfull
      gi_wp2_with (gi_at_builtin; refine wpListIn_append_own _ rfl _ _ 32 rfl w9.heap.size 3 i0 (.int .i64 0) 1 8 Try.underlying32 hi0 hz00 hz11 hz22 rfl (by decide) _ _ _ rfl (hrow.alloc _) ⟨W.heap.size, 0, none⟩ 1 1 [.int .i64 x] rfl rfl (cell_one_new _ _ _) (by simp [Value.oneCell']) (by unfold maxLen; omega) (by omega) (by have := hB.size; simp; omega) ?_; intro v' w1 hown' hgrow _; obtain ⟨g', cap', rfl⟩ := ownsRow_succ hown'; obtain ⟨hv1, hv2, hr2, hk2, hb2⟩ := appendedG hv hrow hB.size hown' hgrow; have hc1 := hv1.cell; have hf1 := hv1.frozen)
      exact ⟨hk2.from _, hb2, ⟨⟨_, hv2, by first | exact ⟨by simpa [valsI] using hr2, trivial⟩ | simpa [valsI] using hr2⟩, hB.trans hb2⟩, by have := HNF.out; simp; omega⟩
  case stop =>
    rintro D c ys W hD hpre ⟨⟨⟨v, hv, hrow, _⟩, hB⟩, rfl, hyl⟩ hKd
    have hgot : ∃ l, l = pl.take (K8 + 1) ∧ W.ownsRow w9.heap.size 3 1 v l.length (valsI l) := ⟨ys.dropLast, by
      obtain ⟨t, rfl⟩ := hpre
      have h0 : ys ≠ [] := fun e => by subst e; simp at hyl
      conv => rhs; rw [← List.dropLast_concat_getLast h0, List.append_assoc, ← hyl, List.take_left], hrow⟩
    clear hpre hyl hrow
    obtain ⟨l, hl2, hrow⟩ := hgot
    refine wpIn_exit ?_
    have hsl := (sl_of_own hrow).1
    have hTB := hB.tch
    have T6W : Hid (Tch [tb + 1, gx] w6 W) := (T69.out.mono (by simp)).trans (hTB.mono (by simp))
    have T4W : Hid (Tch [] w4 W) := T46.out.trans2 T6W.out (fun k hk => .inr (by simp at hk; omega))
    have LD : Hid (w9.heap.size ≤ D ∧ D < W.heap.size) := ⟨hD, lt_of_obj hKd⟩
    have KD := hid hKd
    have SGW := hid hsl
    have BGW := hid hv
    have GW := hid (T6W.out.obj O46.out (by simp; omega))
    have RW := hid (T6W.out.obj R6.out (by simp; omega))
    have QW := hid (T6W.out.obj Q6.out (by simp; omega))
    have VW : Hid (Vd (tb + 1) w6 W (.slice wa pl.length wc) pl) := HVD.out W hTB
    have T0W : Hid (Tch [] w W) := (T0.out.trans T04.out).trans T4W.out
    have hsx : w0.heap.size = w.heap.size + 1 + 1 + 1 ∧ w0.heap.size ≤ gb ∧ gb < w4.heap.size ∧ w4.heap.size ≤ tb ∧ w6.heap.size = tb + 1 + 1 + 1 ∧ w6.heap.size ≤ gx ∧ gx < w9.heap.size := by have := S8.out; omega
    have HSX := hid hsx
    clear hsx
    clear hB hTB hrow hsl hv hKd SP9 VD9 T69 G9 O9 c9 hLB sx ssz O6 O46 R6 Q6 T06 T46 TV6
    have HRD : Hid (∀ X, Tch [] W X → Calls Try.prog 15 #[.agg #[.int .i64 n, .map (some bm), .map (some am)]] X fun e w' => RchP X w' (rchB n (dfs F n).met) e) := fun X t => reached_any (n := n) (GL4.out.tch (T4W.out.trans t)).g HRG.out (by omega) (fun x => by have := HLF.out x; omega)
    have HCM : Hid (cntM (dfs F n).met n = pl.length) := (cntM_cong n (fun i _ => (dfs_met (by omega) HRG.out i).trans (DT.out.mem i).symm)).trans (cntM_len n pl DT.out.nd (fun x hx => HR.out x ((DT.out.mem x).1 hx)))
    generalize (dfs F n).met = met at *
    have z0 := cell_of_row _ _ 0 _ _ _ GW.out
    have z1 := cell_of_row _ _ 1 _ _ _ GW.out
    have z2 := cell_of_row _ _ 2 _ _ _ GW.out
    simp only [List.getElem?_toArray, List.getElem?_cons_zero, List.getElem?_cons_succ] at z0 z1 z2
    have HR4 := hid (HRD.out _ (Tch.refl _ _))
    go_wp2_with (go_at_call 15; refine HR4.out.mono ?_; rintro e x4 ⟨v4, rfl, s4, o4, t4⟩; rw [rchB_len] at s4; have S4 := hid s4; have T4 := hid t4; obtain ⟨b4, off4, c4, hv4⟩ := s4.ptr (by omega); subst hv4; clear s4 o4 t4)
    have HC1 : Hid (∀ i : Nat, i < n → x4.cell? ⟨b4, off4 + i, none⟩ = some (.bool (decide ((i : Int) ∈ met)))) := fun i hi => S4.out.cell.2.1 i _ (by simp [bvals, rchB, hi])
    clear z0 z1 z2 HR4 HRD S4
    go_loop [12, 14, 46] (fun vm _ vi => ∃ i : Nat, vi = .int .i64 i ∧ vm = .int .i64 (cntM met i) ∧ i ≤ n) (fun _ _ vi => n - (intOf vi).toNat)
    case atStart => exact ⟨0, rfl, rfl, Nat.zero_le _⟩
    case round =>
      obtain ⟨i, rfl, rfl, hi⟩ := hrel
      have hcm := cntM_le met i
      by_cases hlti : i < n
      · have k1 := HC1.out i hlti
        by_cases hin : (i : Int) ∈ met
        · rw [decide_eq_true hin] at k1
          have HCN : Hid (cntM met (i + 1) = cntM met i + 1) := by show _ = _; rw [cntM, if_pos hin]
          clear hin
          go_wp2
          go_round
          case rel => exact ⟨i + 1, by go_num, by rw [HCN.out]; go_num, by omega⟩
          case measure => simp [intOf]; omega
        · rw [decide_eq_false hin] at k1
          have HCN : Hid (cntM met (i + 1) = cntM met i) := by show _ = _; rw [cntM, if_neg hin]; rfl
          clear hin
          go_wp2
          go_round
          case rel => exact ⟨i + 1, by go_num, by rw [HCN.out], by omega⟩
          case measure => simp [intOf]; omega
      · have ein : i = n := by omega
        subst ein
        rw [HCM.out]
        clear HC1 hcm hi hlti
        go_upto_region 23 with fail
        have t5 : Tch [] x4 (x4.alloc (.cells #[.slice none 0 0, .slice none 0 0, .slice none 0 0, .map none] 35)) := (Tch.refl [] x4).alloc _
        have o5 := heap_alloc_new x4 (.cells #[.slice none 0 0, .slice none 0 0, .slice none 0 0, .map none] 35)
        have s5 : (x4.alloc (.cells #[.slice none 0 0, .slice none 0 0, .slice none 0 0, .map none] 35)).heap.size = x4.heap.size + 1 := by simp
        go_wp2_with (go_at_call 14; refine (all_any _ _ _ _ _).mono ?_; rintro e x5 ⟨rfl, rfl⟩)
        generalize x4.alloc (.cells #[.slice none 0 0, .slice none 0 0, .slice none 0 0, .map none] 35) = x5 at *
        have c5 := cell_of_row _ _ 0 _ _ _ o5
        simp only [List.getElem?_toArray, List.getElem?_cons_zero] at c5
        have TX5 := hid (T4.out.trans t5)
        clear o5 t5
        refine (wpIn_wide (n := 5)).1 ?_
        refine wpIn_range (fun (x : Int) t => t.setIfInBounds 56 (.int .i64 x)) rfl (by decide) (gf := 39) (lb := #[.pointer (some ⟨x4.heap.size, 0, none⟩)]) rfl trivial (enters_of Try.func39 (by kernel_rfl) rfl)
          (all_stops 4 (by decide) x4.heap.size x5.heap.size x5.heap.size (.slice none 0 0) [] (by simp) x5 (Nat.le_refl _) ⟨by omega, by omega⟩ c5 (Sl.nil _ _ _) (by simp [blks]))
          (fun h k => h.trans k) (Bx.put (Nat.le_refl _)) (Below.refl _ _) (fun _ => rfl)
          (fun _ X => Bx x5.heap.size x5.heap.size x5 X)
          (fun _ _ _ => False)
          (bx_own (Nat.le_refl _) (Nat.le_refl _))
          (fun _ _ _ _ _ hs _ _ => hs)
          (Bx.refl _ _ _) ?assignA ?bodyA ?doneA ?stopA
        case assignA =>
          intro lp x X K hK
          clear s5
          gi_wp2
          try simp only [List.setIfInBounds_toArray, List.set_cons_succ, List.set_cons_zero] at hK
          exact hK
        case bodyA =>
          rintro lp pre x X _ hlt
          exact absurd hlt (by simp)
        case stopA =>
          rintro D2 c pre X _ _ h _
          exact h.elim
        case doneA =>
          rintro D2 ys X hD2 _ hB hKd2
          have T5X : Hid (Tch [] x5 X) := ⟨hB.os, hB.tape, hB.output, hB.size, fun k hk _ => hB.block k hk (by omega)⟩
          have TX := hid (TX5.out.trans T5X.out)
          have KX2 := hid hKd2
          have LX : Hid (x5.heap.size ≤ D2 ∧ W.heap.size ≤ x5.heap.size) := ⟨hD2, TX5.out.size⟩
          clear hB hKd2 c5 s5 TX5 T5X
          obtain ⟨wb, wo, wc2, hwv⟩ := VW.out.s.ptr (by rw [hl.out]; have := (List.getElem?_eq_some_iff.1 DT.out.z).1; omega)
          obtain ⟨rfl, rfl⟩ : wa = some ⟨wb, wo, none⟩ ∧ wc = wc2 := by simpa using hwv
          obtain ⟨ga, gc, rfl⟩ := SGW.out.shape
          have a1 := cell_of_row _ _ 0 _ _ _ (TX.out.obj BGW.out (by simp))
          have a2 := cell_of_row _ _ 0 _ _ _ (TX.out.obj VW.out.o (by simp))
          have a3 := cell_of_row _ _ 0 _ _ _ (TX.out.obj QW.out (by simp))
          have gw := TX.out.obj GW.out (by simp)
          have z0 := cell_of_row _ _ 0 _ _ _ gw
          have z1 := cell_of_row _ _ 1 _ _ _ gw
          have z2 := cell_of_row _ _ 2 _ _ _ gw
          simp only [List.getElem?_toArray, List.getElem?_cons_zero, List.getElem?_cons_succ] at a1 a2 a3 z0 z1 z2
          have ro := TX.out.obj RW.out (by simp)
          have hcap := VW.out.s.cap
          clear gw
          have RX := hid ro
          have hlle : l.length ≤ pl.length ∧ l.length ≤ K8 + 1 := by rw [hl2]; simp; omega
          have hmin : min (L : Int) (1 + (K8 : Int)) = (l.length : Int) := by rw [hl2, ← hl.out]; simp; omega
          have hlL : l.length ≤ L := by have := hl.out; omega
          have hT8 : st.tmod 8 = (K8 : Int) := by rw [Int.tmod_eq_emod_of_nonneg hst.1]; exact hK8
          have hW8 : IntKind.i64.wrap (K8 : Int) = (K8 : Int) := by rw [IntKind.wrap_i64]; omega
          have hW9 : IntKind.i64.wrap (1 + (K8 : Int)) = 1 + (K8 : Int) := by rw [IntKind.wrap_i64]; omega
          have SGX := hid (SGW.out.kept TX.out (by simp))
          have STK : Hid (Sl X 3 1 (.slice (some ⟨wb, wo, none⟩) l.length wc) l.length (ivals l)) := by
            have h1 := sl_take (VW.out.s.kept TX.out (by simp)) l.length hlle.1
            rw [Nat.mul_one] at h1
            have h2 : (ivals pl).take l.length = ivals l := by
              rw [hl2]; simp [ivals, List.map_take]
            rwa [h2] at h1
          have hlw : l.length ≤ wc := by have := hcap; omega
          have HL2 := hid hl2
          have hpl9 : pl.length ≤ 900 := by have := hl.out; omega
          have hll := hid hl
          clear hl
          clear hl2 ro
          go_upto_region 25 with fail
          try dsimp only
          have KS : Hid (∀ w', Tch [] X w' → Tch [] X w' ∧ w'.cell? ⟨gx, 0, none⟩ = some (.slice ga l.length gc) ∧ w'.cell? ⟨tb + 1, 0, none⟩ = some (.slice (some ⟨wb, wo, none⟩) pl.length wc) ∧ w'.cell? ⟨w.heap.size + 1, 0, none⟩ = some (.int .u8 st) ∧ w'.cell? ⟨gb, 0, none⟩ = some (.int .i64 i) ∧ w'.cell? ⟨gb, 1, none⟩ = some (.map (some bm)) ∧ w'.cell? ⟨gb, 2, none⟩ = some (.map (some am))) := fun w' t => ⟨t, t.val0 a1, t.val0 a2, t.val0 a3, t.val0 z0, t.val0 z1, t.val0 z2⟩
          refine wp_region_z (fun w' => Tch [] X w' ∧ w'.cell? ⟨gx, 0, none⟩ = some (.slice ga l.length gc) ∧ w'.cell? ⟨tb + 1, 0, none⟩ = some (.slice (some ⟨wb, wo, none⟩) pl.length wc) ∧ w'.cell? ⟨w.heap.size + 1, 0, none⟩ = some (.int .u8 st) ∧ w'.cell? ⟨gb, 0, none⟩ = some (.int .i64 i) ∧ w'.cell? ⟨gb, 1, none⟩ = some (.map (some bm)) ∧ w'.cell? ⟨gb, 2, none⟩ = some (.map (some am))) 24 hm (KS.out _ (Tch.refl _ _).drew) (fun hHeld => ?_)
          generalize X.drew = x0 at *
          refine wpAnyZ_take (i := 0) (oi := { dst := some 57, op := Go.Op.load 32 (Go.Operand.tmp 8), type := 32, pos := "law.go:122", after := #[], guard := none }) (v := ?_) rfl (by kernel_rfl) (by kernel_rfl) (by kernel_rfl) (by kernel_rfl) (fun _ _ _ h => h) (Or.inl ⟨by rfl, ?_⟩) (by assumption) ?_
          rotate_left
          (intro w hSw; (try dsimp only at hSw); go_simp; try (with_reducible rfl))
          try simp only [Act.put, List.setIfInBounds_toArray, List.set_cons_zero, List.set_cons_succ]
          refine wpAnyZ_take (i := 1) (oi := { dst := some 58, op := Go.Op.call { callee := Go.Callee.builtin Go.Builtin.len, args := #[Go.Operand.tmp 57], argTypes := #[32] }, type := 3, pos := "law.go:122", after := #[{ on := 0, ground := Go.Ground.data }], guard := none }) (v := ?_) rfl (by kernel_rfl) (by kernel_rfl) (by kernel_rfl) (by kernel_rfl) (fun _ _ _ h => h) (Or.inl ⟨by rfl, ?_⟩) (by assumption) ?_
          rotate_left
          (intro w hSw; (try dsimp only at hSw); go_simp; try (with_reducible rfl))
          try simp only [Act.put, List.setIfInBounds_toArray, List.set_cons_zero, List.set_cons_succ]
          refine wpAnyZ_take (i := 2) (oi := { dst := some 59, op := Go.Op.move (Go.Operand.tmp 12), type := 3, pos := "law.go:122", after := #[], guard := none }) (v := ?_) rfl (by kernel_rfl) (by kernel_rfl) (by kernel_rfl) (by kernel_rfl) (fun _ _ _ h => h) (Or.inl ⟨by rfl, ?_⟩) (by assumption) ?_
          rotate_left
          (intro w hSw; (try dsimp only at hSw); go_simp; try (with_reducible rfl))
          try simp only [Act.put, List.setIfInBounds_toArray, List.set_cons_zero, List.set_cons_succ]
          refine wpAnyZ_take (i := 3) (oi := { dst := some 60, op := Go.Op.binOp Go.BinOp.eql 3 (Go.Operand.tmp 58) (Go.Operand.tmp 59) 3, type := 4, pos := "law.go:122", after := #[{ on := 1, ground := Go.Ground.data }, { on := 2, ground := Go.Ground.data }], guard := none }) (v := ?_) rfl (by kernel_rfl) (by kernel_rfl) (by kernel_rfl) (by kernel_rfl) (fun _ _ _ h => h) (Or.inl ⟨by rfl, ?_⟩) (by assumption) ?_
          rotate_left
          (intro w hSw; (try dsimp only at hSw); go_simp; try (with_reducible rfl))
          try simp only [Act.put, List.setIfInBounds_toArray, List.set_cons_zero, List.set_cons_succ]
          refine wpAnyZ_take (i := 4) (oi := { dst := some 61, op := Go.Op.move (Go.Operand.tmp 60), type := 4, pos := "law.go:122", after := #[{ on := 3, ground := Go.Ground.data }], guard := none }) (v := ?_) rfl (by kernel_rfl) (by kernel_rfl) (by kernel_rfl) (by kernel_rfl) (fun _ _ _ h => h) (Or.inl ⟨by rfl, ?_⟩) (by assumption) ?_
          rotate_left
          (intro w hSw; (try dsimp only at hSw); go_simp; try (with_reducible rfl))
          try simp only [Act.put, List.setIfInBounds_toArray, List.set_cons_zero, List.set_cons_succ]
          refine wpAnyZ_take (i := 5) (oi := { dst := some 62, op := Go.Op.load 32 (Go.Operand.tmp 10), type := 32, pos := "law.go:122", after := #[{ on := 4, ground := Go.Ground.guard }], guard := some (4, true) }) (v := ?_) rfl (by kernel_rfl) (by kernel_rfl) (by kernel_rfl) (by kernel_rfl) (fun _ _ _ h => h) (Or.inl ⟨by rfl, ?_⟩) (by assumption) ?_
          rotate_left
          (intro w hSw; (try dsimp only at hSw); go_simp; try (with_reducible rfl))
          try simp only [Act.put, List.setIfInBounds_toArray, List.set_cons_zero, List.set_cons_succ]
          refine wpAnyZ_take (i := 6) (oi := { dst := some 63, op := Go.Op.load 32 (Go.Operand.tmp 8), type := 32, pos := "law.go:122", after := #[{ on := 4, ground := Go.Ground.guard }], guard := some (4, true) }) (v := ?_) rfl (by kernel_rfl) (by kernel_rfl) (by kernel_rfl) (by kernel_rfl) (fun _ _ _ h => h) (Or.inl ⟨by rfl, ?_⟩) (by assumption) ?_
          rotate_left
          (intro w hSw; (try dsimp only at hSw); go_simp; try (with_reducible rfl))
          try simp only [Act.put, List.setIfInBounds_toArray, List.set_cons_zero, List.set_cons_succ]
          refine wpAnyZ_take (i := 7) (oi := { dst := some 64, op := Go.Op.load 32 (Go.Operand.tmp 8), type := 32, pos := "law.go:122", after := #[{ on := 4, ground := Go.Ground.guard }], guard := some (4, true) }) (v := ?_) rfl (by kernel_rfl) (by kernel_rfl) (by kernel_rfl) (by kernel_rfl) (fun _ _ _ h => h) (Or.inl ⟨by rfl, ?_⟩) (by assumption) ?_
          rotate_left
          (intro w hSw; (try dsimp only at hSw); go_simp; try (with_reducible rfl))
          try simp only [Act.put, List.setIfInBounds_toArray, List.set_cons_zero, List.set_cons_succ]
          refine wpAnyZ_take (i := 8) (oi := { dst := some 65, op := Go.Op.call { callee := Go.Callee.builtin Go.Builtin.len, args := #[Go.Operand.tmp 64], argTypes := #[32] }, type := 3, pos := "law.go:122", after := #[{ on := 7, ground := Go.Ground.data }, { on := 4, ground := Go.Ground.guard }], guard := some (4, true) }) (v := ?_) rfl (by kernel_rfl) (by kernel_rfl) (by kernel_rfl) (by kernel_rfl) (fun _ _ _ h => h) (Or.inl ⟨by rfl, ?_⟩) (by assumption) ?_
          rotate_left
          (intro w hSw; (try dsimp only at hSw); go_simp; try (with_reducible rfl))
          try simp only [Act.put, List.setIfInBounds_toArray, List.set_cons_zero, List.set_cons_succ]
          refine wpAnyZ_take (i := 9) (oi := { dst := some 66, op := Go.Op.load 5 (Go.Operand.tmp 3), type := 5, pos := "law.go:122", after := #[{ on := 4, ground := Go.Ground.guard }], guard := some (4, true) }) (v := ?_) rfl (by kernel_rfl) (by kernel_rfl) (by kernel_rfl) (by kernel_rfl) (fun _ _ _ h => h) (Or.inl ⟨by rfl, ?_⟩) (by assumption) ?_
          rotate_left
          (intro w hSw; (try dsimp only at hSw); go_simp; try (with_reducible rfl))
          try simp only [Act.put, List.setIfInBounds_toArray, List.set_cons_zero, List.set_cons_succ]
          refine wpAnyZ_take (i := 10) (oi := { dst := some 67, op := Go.Op.binOp Go.BinOp.rem 5 (Go.Operand.tmp 66) (Go.Operand.const (Go.Value.int Go.IntKind.u8 8)) 5, type := 5, pos := "law.go:122", after := #[{ on := 9, ground := Go.Ground.data }, { on := 4, ground := Go.Ground.guard }], guard := some (4, true) }) (v := .int .u8 (K8 : Int)) rfl (by kernel_rfl) (by kernel_rfl) (by kernel_rfl) (by kernel_rfl) (fun _ _ _ h => h) (Or.inl ⟨by rfl, ?_⟩) (by assumption) ?_
          · intro w hSw
            (try dsimp only at hSw)
            go_simp
            try simp only [hT8]
          try simp only [Act.put, List.setIfInBounds_toArray, List.set_cons_zero, List.set_cons_succ]
          refine wpAnyZ_take (i := 11) (oi := { dst := some 68, op := Go.Op.convert 5 3 (Go.Operand.tmp 67), type := 3, pos := "law.go:122", after := #[{ on := 10, ground := Go.Ground.data }, { on := 4, ground := Go.Ground.guard }], guard := some (4, true) }) (v := .int .i64 (K8 : Int)) rfl (by kernel_rfl) (by kernel_rfl) (by kernel_rfl) (by kernel_rfl) (fun _ _ _ h => h) (Or.inl ⟨by rfl, ?_⟩) (by assumption) ?_
          · intro w hSw
            (try dsimp only at hSw)
            go_simp
            try simp only [hW8]
          try simp only [Act.put, List.setIfInBounds_toArray, List.set_cons_zero, List.set_cons_succ]
          refine wpAnyZ_take (i := 12) (oi := { dst := some 69, op := Go.Op.binOp Go.BinOp.add 3 (Go.Operand.const (Go.Value.int Go.IntKind.i64 1)) (Go.Operand.tmp 68) 3, type := 3, pos := "law.go:122", after := #[{ on := 11, ground := Go.Ground.data }, { on := 4, ground := Go.Ground.guard }], guard := some (4, true) }) (v := .int .i64 (1 + (K8 : Int))) rfl (by kernel_rfl) (by kernel_rfl) (by kernel_rfl) (by kernel_rfl) (fun _ _ _ h => h) (Or.inl ⟨by rfl, ?_⟩) (by assumption) ?_
          · intro w hSw
            (try dsimp only at hSw)
            go_simp
            try simp only [hW9]
          try simp only [Act.put, List.setIfInBounds_toArray, List.set_cons_zero, List.set_cons_succ]
          refine wpAnyZ_take (i := 13) (oi := { dst := some 70, op := Go.Op.call { callee := Go.Callee.builtin Go.Builtin.min, args := #[Go.Operand.tmp 65, Go.Operand.tmp 69], argTypes := #[3, 3] }, type := 3, pos := "law.go:122", after := #[{ on := 8, ground := Go.Ground.data }, { on := 12, ground := Go.Ground.data }, { on := 4, ground := Go.Ground.guard }], guard := some (4, true) }) (v := .int .i64 (l.length : Int)) rfl (by kernel_rfl) (by kernel_rfl) (by kernel_rfl) (by kernel_rfl) (fun _ _ _ h => h) (Or.inl ⟨by rfl, ?_⟩) (by assumption) ?_
          · intro w hSw
            (try dsimp only at hSw)
            go_simp
            try simp only [hmin]
          try simp only [Act.put, List.setIfInBounds_toArray, List.set_cons_zero, List.set_cons_succ]
          refine wpAnyZ_take (i := 14) (oi := { dst := some 71, op := Go.Op.slice 32 (Go.Operand.tmp 63) none (some (Go.Operand.tmp 70)) none, type := 32, pos := "law.go:122", after := #[{ on := 6, ground := Go.Ground.data }, { on := 13, ground := Go.Ground.data }, { on := 4, ground := Go.Ground.guard }], guard := some (4, true) }) (v := .slice (some ⟨wb, wo, none⟩) l.length wc) rfl (by kernel_rfl) (by kernel_rfl) (by kernel_rfl) (by kernel_rfl) (fun _ _ _ h => h) (Or.inl ⟨by rfl, ?_⟩) (by assumption) ?_
          · intro w hSw
            (try dsimp only at hSw)
            go_simp
            try simp [hlw, hlL]
          try simp only [Act.put, List.setIfInBounds_toArray, List.set_cons_zero, List.set_cons_succ]
          refine wpAnyZ_step (i := 15) (o := { dst := some 72, op := Go.Op.call { callee := Go.Callee.value (Go.Operand.func 16), args := #[Go.Operand.tmp 62, Go.Operand.tmp 71], argTypes := #[32, 32] }, type := 4, pos := "law.go:122", after := #[{ on := 5, ground := Go.Ground.data }, { on := 14, ground := Go.Ground.data }, { on := 4, ground := Go.Ground.chain }, { on := 4, ground := Go.Ground.guard }], guard := some (4, true) }) (by kernel_rfl) (by kernel_rfl) (fun Kq hK => ?_)
          go_simp
          go_at_call 16
          refine (equal_I (.slice ga l.length gc) (.slice (some ⟨wb, wo, none⟩) l.length wc) l l _ ((SGX.out.kept hHeld.1 (by simp)).seg) ((STK.out.kept hHeld.1 (by simp)).seg) (by omega) (by omega)).mono ?_
          rintro e x2 ⟨he, q2, hq2⟩
          rw [show sameI l l = true by simp [sameI]] at he
          subst he
          refine hK.out _ _ (KS.out _ (by rw [hq2]; exact hHeld.1.drewN _)) (fun hH2 => ?_)
          clear hHeld hK Kq
          have hHeld := hH2
          clear hH2
          try simp only [Act.put, List.setIfInBounds_toArray, List.set_cons_zero, List.set_cons_succ]
          clear hq2
          refine wpAnyZ_take (i := 16) (oi := { dst := some 73, op := Go.Op.pick (Go.Operand.tmp 61) (Go.Operand.tmp 72) (Go.Operand.const (Go.Value.bool false)), type := 4, pos := "law.go:122", after := #[{ on := 4, ground := Go.Ground.data }, { on := 15, ground := Go.Ground.data }], guard := none }) (v := ?_) rfl (by kernel_rfl) (by kernel_rfl) (by kernel_rfl) (by kernel_rfl) (fun _ _ _ h => h) (Or.inl ⟨by rfl, ?_⟩) (by assumption) ?_
          rotate_left
          (intro w hSw; (try dsimp only at hSw); go_simp; try (with_reducible rfl))
          try simp only [Act.put, List.setIfInBounds_toArray, List.set_cons_zero, List.set_cons_succ]
          refine wpAnyZ_take (i := 17) (oi := { dst := some 74, op := Go.Op.move (Go.Operand.tmp 73), type := 4, pos := "law.go:122", after := #[{ on := 16, ground := Go.Ground.data }, { on := 15, ground := Go.Ground.chain }], guard := none }) (v := ?_) rfl (by kernel_rfl) (by kernel_rfl) (by kernel_rfl) (by kernel_rfl) (fun _ _ _ h => h) (Or.inl ⟨by rfl, ?_⟩) (by assumption) ?_
          rotate_left
          (intro w hSw; (try dsimp only at hSw); go_simp; try (with_reducible rfl))
          try simp only [Act.put, List.setIfInBounds_toArray, List.set_cons_zero, List.set_cons_succ]
          refine wpAnyZ_take (i := 18) (oi := { dst := some 75, op := Go.Op.move (Go.Operand.tmp 6), type := 29, pos := "law.go:122", after := #[{ on := 17, ground := Go.Ground.guard }], guard := some (17, true) }) (v := ?_) rfl (by kernel_rfl) (by kernel_rfl) (by kernel_rfl) (by kernel_rfl) (fun _ _ _ h => h) (Or.inl ⟨by rfl, ?_⟩) (by assumption) ?_
          rotate_left
          (intro w hSw; (try dsimp only at hSw); go_simp; try (with_reducible rfl))
          try simp only [Act.put, List.setIfInBounds_toArray, List.set_cons_zero, List.set_cons_succ]
          refine wpAnyZ_take (i := 19) (oi := { dst := some 76, op := Go.Op.call { callee := Go.Callee.builtin Go.Builtin.len, args := #[Go.Operand.tmp 75], argTypes := #[29] }, type := 3, pos := "law.go:122", after := #[{ on := 18, ground := Go.Ground.data }, { on := 17, ground := Go.Ground.guard }], guard := some (17, true) }) (v := ?_) rfl (by kernel_rfl) (by kernel_rfl) (by kernel_rfl) (by kernel_rfl) (fun _ _ _ h => h) (Or.inl ⟨by rfl, ?_⟩) (by assumption) ?_
          rotate_left
          (intro w hSw; (try dsimp only at hSw); go_simp; try (with_reducible rfl))
          try simp only [Act.put, List.setIfInBounds_toArray, List.set_cons_zero, List.set_cons_succ]
          refine wpAnyZ_take (i := 20) (oi := { dst := some 77, op := Go.Op.load 28 (Go.Operand.tmp 5), type := 28, pos := "law.go:122", after := #[{ on := 17, ground := Go.Ground.guard }], guard := some (17, true) }) (v := ?_) rfl (by kernel_rfl) (by kernel_rfl) (by kernel_rfl) (by kernel_rfl) (fun _ _ _ h => h) (Or.inl ⟨by rfl, ?_⟩) (by assumption) ?_
          rotate_left
          (intro w hSw; (try dsimp only at hSw); go_simp; try (with_reducible rfl))
          try simp only [Act.put, List.setIfInBounds_toArray, List.set_cons_zero, List.set_cons_succ]
          refine wpAnyZ_step (i := 21) (o := { dst := some 78, op := Go.Op.call { callee := Go.Callee.value (Go.Operand.func 17), args := #[Go.Operand.tmp 77], argTypes := #[28] }, type := 3, pos := "law.go:122", after := #[{ on := 20, ground := Go.Ground.data }, { on := 17, ground := Go.Ground.chain }, { on := 17, ground := Go.Ground.guard }], guard := some (17, true) }) (by kernel_rfl) (by kernel_rfl) (fun Kq hK => ?_)
          go_simp
          go_at_call 17
          refine (gLen_any _ _ _ _).mono ?_
          rintro e x3 ⟨rfl, g3⟩
          refine hK.out _ _ (KS.out _ (hHeld.1.trans g3.tch)) (fun hH2 => ?_)
          clear hHeld hK Kq
          have hHeld := hH2
          clear hH2
          try simp only [Act.put, List.setIfInBounds_toArray, List.set_cons_zero, List.set_cons_succ]
          have TL := hid hHeld.1
          obtain ⟨cr, fr, ro2⟩ := cf_tD hHeld.1 RX.out
          clear g3
          refine wpAnyZ_take (i := 22) (oi := { dst := some 79, op := Go.Op.binOp Go.BinOp.eql 3 (Go.Operand.tmp 76) (Go.Operand.tmp 78) 3, type := 4, pos := "law.go:122", after := #[{ on := 19, ground := Go.Ground.data }, { on := 21, ground := Go.Ground.data }, { on := 17, ground := Go.Ground.guard }], guard := some (17, true) }) (v := ?_) rfl (by kernel_rfl) (by kernel_rfl) (by kernel_rfl) (by kernel_rfl) (fun _ _ _ h => h) (Or.inl ⟨by rfl, ?_⟩) (by assumption) ?_
          rotate_left
          (intro w hSw; (try dsimp only at hSw); go_simp; try (with_reducible rfl))
          try simp only [Act.put, List.setIfInBounds_toArray, List.set_cons_zero, List.set_cons_succ]
          refine wpAnyZ_take (i := 23) (oi := { dst := some 80, op := Go.Op.pick (Go.Operand.tmp 74) (Go.Operand.tmp 79) (Go.Operand.const (Go.Value.bool false)), type := 4, pos := "law.go:122", after := #[{ on := 17, ground := Go.Ground.data }, { on := 22, ground := Go.Ground.data }], guard := none }) (v := ?_) rfl (by kernel_rfl) (by kernel_rfl) (by kernel_rfl) (by kernel_rfl) (fun _ _ _ h => h) (Or.inl ⟨by rfl, ?_⟩) (by assumption) ?_
          rotate_left
          (intro w hSw; (try dsimp only at hSw); go_simp; try (with_reducible rfl))
          try simp only [Act.put, List.setIfInBounds_toArray, List.set_cons_zero, List.set_cons_succ]
          refine wpAnyZ_last (o := { dst := none, op := Go.Op.store 4 (Go.Operand.tmp 4) (Go.Operand.tmp 80), type := 0, pos := "law.go:122", after := #[{ on := 23, ground := Go.Ground.data }, { on := 21, ground := Go.Ground.chain }, { on := 0, ground := Go.Ground.phase }, { on := 1, ground := Go.Ground.phase }, { on := 2, ground := Go.Ground.phase }, { on := 3, ground := Go.Ground.phase }, { on := 4, ground := Go.Ground.phase }, { on := 5, ground := Go.Ground.phase }, { on := 6, ground := Go.Ground.phase }, { on := 7, ground := Go.Ground.phase }, { on := 8, ground := Go.Ground.phase }, { on := 9, ground := Go.Ground.phase }, { on := 10, ground := Go.Ground.phase }, { on := 11, ground := Go.Ground.phase }, { on := 12, ground := Go.Ground.phase }, { on := 13, ground := Go.Ground.phase }, { on := 14, ground := Go.Ground.phase }, { on := 15, ground := Go.Ground.phase }, { on := 16, ground := Go.Ground.phase }, { on := 17, ground := Go.Ground.phase }, { on := 18, ground := Go.Ground.phase }, { on := 19, ground := Go.Ground.phase }, { on := 20, ground := Go.Ground.phase }, { on := 21, ground := Go.Ground.phase }, { on := 22, ground := Go.Ground.phase }, { on := 23, ground := Go.Ground.phase }], guard := none }) (by kernel_rfl) (by kernel_rfl) (fun Kq hK => ?_)
          go_simp
          refine hK.out _ _ ?_
          clear hK Kq
          try simp only [Act.put, List.setIfInBounds_toArray, List.set_cons_zero, List.set_cons_succ]
          clear hHeld KS
          refine wpAnyZ_done (by kernel_rfl) (NoPanic.normal ?_) _
          generalize hy3 : x3 = y3 at *
          have ty := TL.out.size
          have lx := LX.out
          have ldd := LD.out
          have hsx := HSX.out
          have k2 := TL.out.obj KX2.out (by simp)
          have k1 := TL.out.obj (TX.out.obj KD.out (by simp)) (by simp)
          have kd2 : (y3.setCell ⟨w.heap.size + 1 + 1, 0, none⟩ (.bool true)).heap[D2]? = some (.deferred (some [])) := (Below.heap_setCell _ _ _ _ (fun e => by simp at e; omega)).trans k2
          have kd1 : (y3.setCell ⟨w.heap.size + 1 + 1, 0, none⟩ (.bool true)).heap[D]? = some (.deferred (some [])) := (Below.heap_setCell _ _ _ _ (fun e => by simp at e; omega)).trans k1
          have kd1b : ((y3.setCell ⟨w.heap.size + 1 + 1, 0, none⟩ (.bool true)).putObj D2 (.deferred none)).heap[D]? = some (.deferred (some [])) := (World.putObj_heap_other (by omega)).trans kd1
          have BY : (y3.setCell ⟨w.heap.size + 1 + 1, 0, none⟩ (.bool true)).heap[w.heap.size + 1 + 1]? = some (.cells #[.bool true] 4 (0, 0)) := heap_setCell_same _ _ _ _ _ _ ro2
          have BZ : (((y3.setCell ⟨w.heap.size + 1 + 1, 0, none⟩ (.bool true)).putObj D2 (.deferred none)).putObj D (.deferred none)).heap[w.heap.size + 1 + 1]? = some (.cells #[.bool true] 4 (0, 0)) := (World.putObj_heap_other (by omega)).trans ((World.putObj_heap_other (by omega)).trans BY)
          have e0 := cell_of_row _ _ 0 _ _ _ BZ
          simp only [List.getElem?_toArray, List.getElem?_cons_zero] at e0
          have F0 : Tch [] w y3 := (T0W.out.trans TX.out).trans TL.out
          have F1 : Tch [] w (y3.setCell ⟨w.heap.size + 1 + 1, 0, none⟩ (.bool true)) := F0.setCell (p := ⟨w.heap.size + 1 + 1, 0, none⟩) (.inr (by show w.heap.size ≤ w.heap.size + 1 + 1; omega)) _
          have F2 : Tch [] w ((y3.setCell ⟨w.heap.size + 1 + 1, 0, none⟩ (.bool true)).putObj D2 (.deferred none)) := F1.trans2 (Tch.of_grown (S := [D2]) (Go.grownBy_putObj' _ D2 _) (fun k e => by cases e; simp)) (fun k hk => .inr (by simp at hk; omega))
          have F3 : Tch [] w (((y3.setCell ⟨w.heap.size + 1 + 1, 0, none⟩ (.bool true)).putObj D2 (.deferred none)).putObj D (.deferred none)) := F2.trans2 (Tch.of_grown (S := [D]) (Go.grownBy_putObj' _ D _) (fun k e => by cases e; simp)) (fun k hk => .inr (by simp at hk; omega))
          go_wp2_with fail
          refine ⟨by simp, .inl ⟨_, _, rfl, run_takeDeferred kd2, ?_⟩⟩
          refine ⟨by simp, .inl ⟨_, _, rfl, run_takeDeferred kd1b, ?_⟩⟩
          exact ⟨_, (show (results _ _).run _ _ = .ok (.bool true) _ by simp [results, Try.results3, go_sem, e0]), rfl, F3⟩
  case done =>
    rintro D ys W hD hys ⟨⟨⟨v, hv, hrow, _⟩, hB⟩, hyl⟩ hKd
    have hgot : ∃ l, l = pl.take (K8 + 1) ∧ W.ownsRow w9.heap.size 3 1 v l.length (valsI l) := ⟨ys, by rw [← hys, List.take_of_length_le hyl], hrow⟩
    clear hyl hys hrow
    obtain ⟨l, hl2, hrow⟩ := hgot
    have hsl := (sl_of_own hrow).1
    have hTB := hB.tch
    have T6W : Hid (Tch [tb + 1, gx] w6 W) := (T69.out.mono (by simp)).trans (hTB.mono (by simp))
    have T4W : Hid (Tch [] w4 W) := T46.out.trans2 T6W.out (fun k hk => .inr (by simp at hk; omega))
    have LD : Hid (w9.heap.size ≤ D ∧ D < W.heap.size) := ⟨hD, lt_of_obj hKd⟩
    have KD := hid hKd
    have SGW := hid hsl
    have BGW := hid hv
    have GW := hid (T6W.out.obj O46.out (by simp; omega))
    have RW := hid (T6W.out.obj R6.out (by simp; omega))
    have QW := hid (T6W.out.obj Q6.out (by simp; omega))
    have VW : Hid (Vd (tb + 1) w6 W (.slice wa pl.length wc) pl) := HVD.out W hTB
    have T0W : Hid (Tch [] w W) := (T0.out.trans T04.out).trans T4W.out
    have hsx : w0.heap.size = w.heap.size + 1 + 1 + 1 ∧ w0.heap.size ≤ gb ∧ gb < w4.heap.size ∧ w4.heap.size ≤ tb ∧ w6.heap.size = tb + 1 + 1 + 1 ∧ w6.heap.size ≤ gx ∧ gx < w9.heap.size := by have := S8.out; omega
    have HSX := hid hsx
    clear hsx
    clear hB hTB hrow hsl hv hKd SP9 VD9 T69 G9 O9 c9 hLB sx ssz O6 O46 R6 Q6 T06 T46 TV6
    have HRD : Hid (∀ X, Tch [] W X → Calls Try.prog 15 #[.agg #[.int .i64 n, .map (some bm), .map (some am)]] X fun e w' => RchP X w' (rchB n (dfs F n).met) e) := fun X t => reached_any (n := n) (GL4.out.tch (T4W.out.trans t)).g HRG.out (by omega) (fun x => by have := HLF.out x; omega)
    have HCM : Hid (cntM (dfs F n).met n = pl.length) := (cntM_cong n (fun i _ => (dfs_met (by omega) HRG.out i).trans (DT.out.mem i).symm)).trans (cntM_len n pl DT.out.nd (fun x hx => HR.out x ((DT.out.mem x).1 hx)))
    generalize (dfs F n).met = met at *
    have z0 := cell_of_row _ _ 0 _ _ _ GW.out
    have z1 := cell_of_row _ _ 1 _ _ _ GW.out
    have z2 := cell_of_row _ _ 2 _ _ _ GW.out
    simp only [List.getElem?_toArray, List.getElem?_cons_zero, List.getElem?_cons_succ] at z0 z1 z2
    have HR4 := hid (HRD.out _ (Tch.refl _ _))
    go_wp2_with (go_at_call 15; refine HR4.out.mono ?_; rintro e x4 ⟨v4, rfl, s4, o4, t4⟩; rw [rchB_len] at s4; have S4 := hid s4; have T4 := hid t4; obtain ⟨b4, off4, c4, hv4⟩ := s4.ptr (by omega); subst hv4; clear s4 o4 t4)
    have HC1 : Hid (∀ i : Nat, i < n → x4.cell? ⟨b4, off4 + i, none⟩ = some (.bool (decide ((i : Int) ∈ met)))) := fun i hi => S4.out.cell.2.1 i _ (by simp [bvals, rchB, hi])
    clear z0 z1 z2 HR4 HRD S4
    go_loop [12, 14, 46] (fun vm _ vi => ∃ i : Nat, vi = .int .i64 i ∧ vm = .int .i64 (cntM met i) ∧ i ≤ n) (fun _ _ vi => n - (intOf vi).toNat)
    case atStart => exact ⟨0, rfl, rfl, Nat.zero_le _⟩
    case round =>
      obtain ⟨i, rfl, rfl, hi⟩ := hrel
      have hcm := cntM_le met i
      by_cases hlti : i < n
      · have k1 := HC1.out i hlti
        by_cases hin : (i : Int) ∈ met
        · rw [decide_eq_true hin] at k1
          have HCN : Hid (cntM met (i + 1) = cntM met i + 1) := by show _ = _; rw [cntM, if_pos hin]
          clear hin
          go_wp2
          go_round
          case rel => exact ⟨i + 1, by go_num, by rw [HCN.out]; go_num, by omega⟩
          case measure => simp [intOf]; omega
        · rw [decide_eq_false hin] at k1
          have HCN : Hid (cntM met (i + 1) = cntM met i) := by show _ = _; rw [cntM, if_neg hin]; rfl
          clear hin
          go_wp2
          go_round
          case rel => exact ⟨i + 1, by go_num, by rw [HCN.out], by omega⟩
          case measure => simp [intOf]; omega
      · have ein : i = n := by omega
        subst ein
        rw [HCM.out]
        clear HC1 hcm hi hlti
        go_upto_region 23 with fail
        have t5 : Tch [] x4 (x4.alloc (.cells #[.slice none 0 0, .slice none 0 0, .slice none 0 0, .map none] 35)) := (Tch.refl [] x4).alloc _
        have o5 := heap_alloc_new x4 (.cells #[.slice none 0 0, .slice none 0 0, .slice none 0 0, .map none] 35)
        have s5 : (x4.alloc (.cells #[.slice none 0 0, .slice none 0 0, .slice none 0 0, .map none] 35)).heap.size = x4.heap.size + 1 := by simp
        go_wp2_with (go_at_call 14; refine (all_any _ _ _ _ _).mono ?_; rintro e x5 ⟨rfl, rfl⟩)
        generalize x4.alloc (.cells #[.slice none 0 0, .slice none 0 0, .slice none 0 0, .map none] 35) = x5 at *
        have c5 := cell_of_row _ _ 0 _ _ _ o5
        simp only [List.getElem?_toArray, List.getElem?_cons_zero] at c5
        have TX5 := hid (T4.out.trans t5)
        clear o5 t5
        refine (wpIn_wide (n := 5)).1 ?_
        refine wpIn_range (fun (x : Int) t => t.setIfInBounds 56 (.int .i64 x)) rfl (by decide) (gf := 39) (lb := #[.pointer (some ⟨x4.heap.size, 0, none⟩)]) rfl trivial (enters_of Try.func39 (by kernel_rfl) rfl)
          (all_stops 4 (by decide) x4.heap.size x5.heap.size x5.heap.size (.slice none 0 0) [] (by simp) x5 (Nat.le_refl _) ⟨by omega, by omega⟩ c5 (Sl.nil _ _ _) (by simp [blks]))
          (fun h k => h.trans k) (Bx.put (Nat.le_refl _)) (Below.refl _ _) (fun _ => rfl)
          (fun _ X => Bx x5.heap.size x5.heap.size x5 X)
          (fun _ _ _ => False)
          (bx_own (Nat.le_refl _) (Nat.le_refl _))
          (fun _ _ _ _ _ hs _ _ => hs)
          (Bx.refl _ _ _) ?assignB ?bodyB ?doneB ?stopB
        case assignB =>
          intro lp x X K hK
          clear s5
          gi_wp2
          try simp only [List.setIfInBounds_toArray, List.set_cons_succ, List.set_cons_zero] at hK
          exact hK
        case bodyB =>
          rintro lp pre x X _ hlt
          exact absurd hlt (by simp)
        case stopB =>
          rintro D2 c pre X _ _ h _
          exact h.elim
        case doneB =>
          rintro D2 ys X hD2 _ hB hKd2
          have T5X : Hid (Tch [] x5 X) := ⟨hB.os, hB.tape, hB.output, hB.size, fun k hk _ => hB.block k hk (by omega)⟩
          have TX := hid (TX5.out.trans T5X.out)
          have KX2 := hid hKd2
          have LX : Hid (x5.heap.size ≤ D2 ∧ W.heap.size ≤ x5.heap.size) := ⟨hD2, TX5.out.size⟩
          clear hB hKd2 c5 s5 TX5 T5X
          obtain ⟨wb, wo, wc2, hwv⟩ := VW.out.s.ptr (by rw [hl.out]; have := (List.getElem?_eq_some_iff.1 DT.out.z).1; omega)
          obtain ⟨rfl, rfl⟩ : wa = some ⟨wb, wo, none⟩ ∧ wc = wc2 := by simpa using hwv
          obtain ⟨ga, gc, rfl⟩ := SGW.out.shape
          have a1 := cell_of_row _ _ 0 _ _ _ (TX.out.obj BGW.out (by simp))
          have a2 := cell_of_row _ _ 0 _ _ _ (TX.out.obj VW.out.o (by simp))
          have a3 := cell_of_row _ _ 0 _ _ _ (TX.out.obj QW.out (by simp))
          have gw := TX.out.obj GW.out (by simp)
          have z0 := cell_of_row _ _ 0 _ _ _ gw
          have z1 := cell_of_row _ _ 1 _ _ _ gw
          have z2 := cell_of_row _ _ 2 _ _ _ gw
          simp only [List.getElem?_toArray, List.getElem?_cons_zero, List.getElem?_cons_succ] at a1 a2 a3 z0 z1 z2
          have ro := TX.out.obj RW.out (by simp)
          have hcap := VW.out.s.cap
          clear gw
          have RX := hid ro
          have hlle : l.length ≤ pl.length ∧ l.length ≤ K8 + 1 := by rw [hl2]; simp; omega
          have hmin : min (L : Int) (1 + (K8 : Int)) = (l.length : Int) := by rw [hl2, ← hl.out]; simp; omega
          have hlL : l.length ≤ L := by have := hl.out; omega
          have hT8 : st.tmod 8 = (K8 : Int) := by rw [Int.tmod_eq_emod_of_nonneg hst.1]; exact hK8
          have hW8 : IntKind.i64.wrap (K8 : Int) = (K8 : Int) := by rw [IntKind.wrap_i64]; omega
          have hW9 : IntKind.i64.wrap (1 + (K8 : Int)) = 1 + (K8 : Int) := by rw [IntKind.wrap_i64]; omega
          have SGX := hid (SGW.out.kept TX.out (by simp))
          have STK : Hid (Sl X 3 1 (.slice (some ⟨wb, wo, none⟩) l.length wc) l.length (ivals l)) := by
            have h1 := sl_take (VW.out.s.kept TX.out (by simp)) l.length hlle.1
            rw [Nat.mul_one] at h1
            have h2 : (ivals pl).take l.length = ivals l := by
              rw [hl2]; simp [ivals, List.map_take]
            rwa [h2] at h1
          have hlw : l.length ≤ wc := by have := hcap; omega
          have HL2 := hid hl2
          have hpl9 : pl.length ≤ 900 := by have := hl.out; omega
          have hll := hid hl
          clear hl
          clear hl2 ro
          go_upto_region 25 with fail
          try dsimp only
          have KS : Hid (∀ w', Tch [] X w' → Tch [] X w' ∧ w'.cell? ⟨gx, 0, none⟩ = some (.slice ga l.length gc) ∧ w'.cell? ⟨tb + 1, 0, none⟩ = some (.slice (some ⟨wb, wo, none⟩) pl.length wc) ∧ w'.cell? ⟨w.heap.size + 1, 0, none⟩ = some (.int .u8 st) ∧ w'.cell? ⟨gb, 0, none⟩ = some (.int .i64 i) ∧ w'.cell? ⟨gb, 1, none⟩ = some (.map (some bm)) ∧ w'.cell? ⟨gb, 2, none⟩ = some (.map (some am))) := fun w' t => ⟨t, t.val0 a1, t.val0 a2, t.val0 a3, t.val0 z0, t.val0 z1, t.val0 z2⟩
          refine wp_region_z (fun w' => Tch [] X w' ∧ w'.cell? ⟨gx, 0, none⟩ = some (.slice ga l.length gc) ∧ w'.cell? ⟨tb + 1, 0, none⟩ = some (.slice (some ⟨wb, wo, none⟩) pl.length wc) ∧ w'.cell? ⟨w.heap.size + 1, 0, none⟩ = some (.int .u8 st) ∧ w'.cell? ⟨gb, 0, none⟩ = some (.int .i64 i) ∧ w'.cell? ⟨gb, 1, none⟩ = some (.map (some bm)) ∧ w'.cell? ⟨gb, 2, none⟩ = some (.map (some am))) 24 hm (KS.out _ (Tch.refl _ _).drew) (fun hHeld => ?_)
          generalize X.drew = x0 at *
          refine wpAnyZ_take (i := 0) (oi := { dst := some 57, op := Go.Op.load 32 (Go.Operand.tmp 8), type := 32, pos := "law.go:122", after := #[], guard := none }) (v := ?_) rfl (by kernel_rfl) (by kernel_rfl) (by kernel_rfl) (by kernel_rfl) (fun _ _ _ h => h) (Or.inl ⟨by rfl, ?_⟩) (by assumption) ?_
          rotate_left
          (intro w hSw; (try dsimp only at hSw); go_simp; try (with_reducible rfl))
          try simp only [Act.put, List.setIfInBounds_toArray, List.set_cons_zero, List.set_cons_succ]
          refine wpAnyZ_take (i := 1) (oi := { dst := some 58, op := Go.Op.call { callee := Go.Callee.builtin Go.Builtin.len, args := #[Go.Operand.tmp 57], argTypes := #[32] }, type := 3, pos := "law.go:122", after := #[{ on := 0, ground := Go.Ground.data }], guard := none }) (v := ?_) rfl (by kernel_rfl) (by kernel_rfl) (by kernel_rfl) (by kernel_rfl) (fun _ _ _ h => h) (Or.inl ⟨by rfl, ?_⟩) (by assumption) ?_
          rotate_left
          (intro w hSw; (try dsimp only at hSw); go_simp; try (with_reducible rfl))
          try simp only [Act.put, List.setIfInBounds_toArray, List.set_cons_zero, List.set_cons_succ]
          refine wpAnyZ_take (i := 2) (oi := { dst := some 59, op := Go.Op.move (Go.Operand.tmp 12), type := 3, pos := "law.go:122", after := #[], guard := none }) (v := ?_) rfl (by kernel_rfl) (by kernel_rfl) (by kernel_rfl) (by kernel_rfl) (fun _ _ _ h => h) (Or.inl ⟨by rfl, ?_⟩) (by assumption) ?_
          rotate_left
          (intro w hSw; (try dsimp only at hSw); go_simp; try (with_reducible rfl))
          try simp only [Act.put, List.setIfInBounds_toArray, List.set_cons_zero, List.set_cons_succ]
          refine wpAnyZ_take (i := 3) (oi := { dst := some 60, op := Go.Op.binOp Go.BinOp.eql 3 (Go.Operand.tmp 58) (Go.Operand.tmp 59) 3, type := 4, pos := "law.go:122", after := #[{ on := 1, ground := Go.Ground.data }, { on := 2, ground := Go.Ground.data }], guard := none }) (v := ?_) rfl (by kernel_rfl) (by kernel_rfl) (by kernel_rfl) (by kernel_rfl) (fun _ _ _ h => h) (Or.inl ⟨by rfl, ?_⟩) (by assumption) ?_
          rotate_left
          (intro w hSw; (try dsimp only at hSw); go_simp; try (with_reducible rfl))
          try simp only [Act.put, List.setIfInBounds_toArray, List.set_cons_zero, List.set_cons_succ]
          refine wpAnyZ_take (i := 4) (oi := { dst := some 61, op := Go.Op.move (Go.Operand.tmp 60), type := 4, pos := "law.go:122", after := #[{ on := 3, ground := Go.Ground.data }], guard := none }) (v := ?_) rfl (by kernel_rfl) (by kernel_rfl) (by kernel_rfl) (by kernel_rfl) (fun _ _ _ h => h) (Or.inl ⟨by rfl, ?_⟩) (by assumption) ?_
          rotate_left
          (intro w hSw; (try dsimp only at hSw); go_simp; try (with_reducible rfl))
          try simp only [Act.put, List.setIfInBounds_toArray, List.set_cons_zero, List.set_cons_succ]
          refine wpAnyZ_take (i := 5) (oi := { dst := some 62, op := Go.Op.load 32 (Go.Operand.tmp 10), type := 32, pos := "law.go:122", after := #[{ on := 4, ground := Go.Ground.guard }], guard := some (4, true) }) (v := ?_) rfl (by kernel_rfl) (by kernel_rfl) (by kernel_rfl) (by kernel_rfl) (fun _ _ _ h => h) (Or.inl ⟨by rfl, ?_⟩) (by assumption) ?_
          rotate_left
          (intro w hSw; (try dsimp only at hSw); go_simp; try (with_reducible rfl))
          try simp only [Act.put, List.setIfInBounds_toArray, List.set_cons_zero, List.set_cons_succ]
          refine wpAnyZ_take (i := 6) (oi := { dst := some 63, op := Go.Op.load 32 (Go.Operand.tmp 8), type := 32, pos := "law.go:122", after := #[{ on := 4, ground := Go.Ground.guard }], guard := some (4, true) }) (v := ?_) rfl (by kernel_rfl) (by kernel_rfl) (by kernel_rfl) (by kernel_rfl) (fun _ _ _ h => h) (Or.inl ⟨by rfl, ?_⟩) (by assumption) ?_
          rotate_left
          (intro w hSw; (try dsimp only at hSw); go_simp; try (with_reducible rfl))
          try simp only [Act.put, List.setIfInBounds_toArray, List.set_cons_zero, List.set_cons_succ]
          refine wpAnyZ_take (i := 7) (oi := { dst := some 64, op := Go.Op.load 32 (Go.Operand.tmp 8), type := 32, pos := "law.go:122", after := #[{ on := 4, ground := Go.Ground.guard }], guard := some (4, true) }) (v := ?_) rfl (by kernel_rfl) (by kernel_rfl) (by kernel_rfl) (by kernel_rfl) (fun _ _ _ h => h) (Or.inl ⟨by rfl, ?_⟩) (by assumption) ?_
          rotate_left
          (intro w hSw; (try dsimp only at hSw); go_simp; try (with_reducible rfl))
          try simp only [Act.put, List.setIfInBounds_toArray, List.set_cons_zero, List.set_cons_succ]
          refine wpAnyZ_take (i := 8) (oi := { dst := some 65, op := Go.Op.call { callee := Go.Callee.builtin Go.Builtin.len, args := #[Go.Operand.tmp 64], argTypes := #[32] }, type := 3, pos := "law.go:122", after := #[{ on := 7, ground := Go.Ground.data }, { on := 4, ground := Go.Ground.guard }], guard := some (4, true) }) (v := ?_) rfl (by kernel_rfl) (by kernel_rfl) (by kernel_rfl) (by kernel_rfl) (fun _ _ _ h => h) (Or.inl ⟨by rfl, ?_⟩) (by assumption) ?_
          rotate_left
          (intro w hSw; (try dsimp only at hSw); go_simp; try (with_reducible rfl))
          try simp only [Act.put, List.setIfInBounds_toArray, List.set_cons_zero, List.set_cons_succ]
          refine wpAnyZ_take (i := 9) (oi := { dst := some 66, op := Go.Op.load 5 (Go.Operand.tmp 3), type := 5, pos := "law.go:122", after := #[{ on := 4, ground := Go.Ground.guard }], guard := some (4, true) }) (v := ?_) rfl (by kernel_rfl) (by kernel_rfl) (by kernel_rfl) (by kernel_rfl) (fun _ _ _ h => h) (Or.inl ⟨by rfl, ?_⟩) (by assumption) ?_
          rotate_left
          (intro w hSw; (try dsimp only at hSw); go_simp; try (with_reducible rfl))
          try simp only [Act.put, List.setIfInBounds_toArray, List.set_cons_zero, List.set_cons_succ]
          refine wpAnyZ_take (i := 10) (oi := { dst := some 67, op := Go.Op.binOp Go.BinOp.rem 5 (Go.Operand.tmp 66) (Go.Operand.const (Go.Value.int Go.IntKind.u8 8)) 5, type := 5, pos := "law.go:122", after := #[{ on := 9, ground := Go.Ground.data }, { on := 4, ground := Go.Ground.guard }], guard := some (4, true) }) (v := .int .u8 (K8 : Int)) rfl (by kernel_rfl) (by kernel_rfl) (by kernel_rfl) (by kernel_rfl) (fun _ _ _ h => h) (Or.inl ⟨by rfl, ?_⟩) (by assumption) ?_
          · intro w hSw
            (try dsimp only at hSw)
            go_simp
            try simp only [hT8]
          try simp only [Act.put, List.setIfInBounds_toArray, List.set_cons_zero, List.set_cons_succ]
          refine wpAnyZ_take (i := 11) (oi := { dst := some 68, op := Go.Op.convert 5 3 (Go.Operand.tmp 67), type := 3, pos := "law.go:122", after := #[{ on := 10, ground := Go.Ground.data }, { on := 4, ground := Go.Ground.guard }], guard := some (4, true) }) (v := .int .i64 (K8 : Int)) rfl (by kernel_rfl) (by kernel_rfl) (by kernel_rfl) (by kernel_rfl) (fun _ _ _ h => h) (Or.inl ⟨by rfl, ?_⟩) (by assumption) ?_
          · intro w hSw
            (try dsimp only at hSw)
            go_simp
            try simp only [hW8]
          try simp only [Act.put, List.setIfInBounds_toArray, List.set_cons_zero, List.set_cons_succ]
          refine wpAnyZ_take (i := 12) (oi := { dst := some 69, op := Go.Op.binOp Go.BinOp.add 3 (Go.Operand.const (Go.Value.int Go.IntKind.i64 1)) (Go.Operand.tmp 68) 3, type := 3, pos := "law.go:122", after := #[{ on := 11, ground := Go.Ground.data }, { on := 4, ground := Go.Ground.guard }], guard := some (4, true) }) (v := .int .i64 (1 + (K8 : Int))) rfl (by kernel_rfl) (by kernel_rfl) (by kernel_rfl) (by kernel_rfl) (fun _ _ _ h => h) (Or.inl ⟨by rfl, ?_⟩) (by assumption) ?_
          · intro w hSw
            (try dsimp only at hSw)
            go_simp
            try simp only [hW9]
          try simp only [Act.put, List.setIfInBounds_toArray, List.set_cons_zero, List.set_cons_succ]
          refine wpAnyZ_take (i := 13) (oi := { dst := some 70, op := Go.Op.call { callee := Go.Callee.builtin Go.Builtin.min, args := #[Go.Operand.tmp 65, Go.Operand.tmp 69], argTypes := #[3, 3] }, type := 3, pos := "law.go:122", after := #[{ on := 8, ground := Go.Ground.data }, { on := 12, ground := Go.Ground.data }, { on := 4, ground := Go.Ground.guard }], guard := some (4, true) }) (v := .int .i64 (l.length : Int)) rfl (by kernel_rfl) (by kernel_rfl) (by kernel_rfl) (by kernel_rfl) (fun _ _ _ h => h) (Or.inl ⟨by rfl, ?_⟩) (by assumption) ?_
          · intro w hSw
            (try dsimp only at hSw)
            go_simp
            try simp only [hmin]
          try simp only [Act.put, List.setIfInBounds_toArray, List.set_cons_zero, List.set_cons_succ]
          refine wpAnyZ_take (i := 14) (oi := { dst := some 71, op := Go.Op.slice 32 (Go.Operand.tmp 63) none (some (Go.Operand.tmp 70)) none, type := 32, pos := "law.go:122", after := #[{ on := 6, ground := Go.Ground.data }, { on := 13, ground := Go.Ground.data }, { on := 4, ground := Go.Ground.guard }], guard := some (4, true) }) (v := .slice (some ⟨wb, wo, none⟩) l.length wc) rfl (by kernel_rfl) (by kernel_rfl) (by kernel_rfl) (by kernel_rfl) (fun _ _ _ h => h) (Or.inl ⟨by rfl, ?_⟩) (by assumption) ?_
          · intro w hSw
            (try dsimp only at hSw)
            go_simp
            try simp [hlw, hlL]
          try simp only [Act.put, List.setIfInBounds_toArray, List.set_cons_zero, List.set_cons_succ]
          refine wpAnyZ_step (i := 15) (o := { dst := some 72, op := Go.Op.call { callee := Go.Callee.value (Go.Operand.func 16), args := #[Go.Operand.tmp 62, Go.Operand.tmp 71], argTypes := #[32, 32] }, type := 4, pos := "law.go:122", after := #[{ on := 5, ground := Go.Ground.data }, { on := 14, ground := Go.Ground.data }, { on := 4, ground := Go.Ground.chain }, { on := 4, ground := Go.Ground.guard }], guard := some (4, true) }) (by kernel_rfl) (by kernel_rfl) (fun Kq hK => ?_)
          go_simp
          go_at_call 16
          refine (equal_I (.slice ga l.length gc) (.slice (some ⟨wb, wo, none⟩) l.length wc) l l _ ((SGX.out.kept hHeld.1 (by simp)).seg) ((STK.out.kept hHeld.1 (by simp)).seg) (by omega) (by omega)).mono ?_
          rintro e x2 ⟨he, q2, hq2⟩
          rw [show sameI l l = true by simp [sameI]] at he
          subst he
          refine hK.out _ _ (KS.out _ (by rw [hq2]; exact hHeld.1.drewN _)) (fun hH2 => ?_)
          clear hHeld hK Kq
          have hHeld := hH2
          clear hH2
          try simp only [Act.put, List.setIfInBounds_toArray, List.set_cons_zero, List.set_cons_succ]
          clear hq2
          refine wpAnyZ_take (i := 16) (oi := { dst := some 73, op := Go.Op.pick (Go.Operand.tmp 61) (Go.Operand.tmp 72) (Go.Operand.const (Go.Value.bool false)), type := 4, pos := "law.go:122", after := #[{ on := 4, ground := Go.Ground.data }, { on := 15, ground := Go.Ground.data }], guard := none }) (v := ?_) rfl (by kernel_rfl) (by kernel_rfl) (by kernel_rfl) (by kernel_rfl) (fun _ _ _ h => h) (Or.inl ⟨by rfl, ?_⟩) (by assumption) ?_
          rotate_left
          (intro w hSw; (try dsimp only at hSw); go_simp; try (with_reducible rfl))
          try simp only [Act.put, List.setIfInBounds_toArray, List.set_cons_zero, List.set_cons_succ]
          refine wpAnyZ_take (i := 17) (oi := { dst := some 74, op := Go.Op.move (Go.Operand.tmp 73), type := 4, pos := "law.go:122", after := #[{ on := 16, ground := Go.Ground.data }, { on := 15, ground := Go.Ground.chain }], guard := none }) (v := ?_) rfl (by kernel_rfl) (by kernel_rfl) (by kernel_rfl) (by kernel_rfl) (fun _ _ _ h => h) (Or.inl ⟨by rfl, ?_⟩) (by assumption) ?_
          rotate_left
          (intro w hSw; (try dsimp only at hSw); go_simp; try (with_reducible rfl))
          try simp only [Act.put, List.setIfInBounds_toArray, List.set_cons_zero, List.set_cons_succ]
          refine wpAnyZ_take (i := 18) (oi := { dst := some 75, op := Go.Op.move (Go.Operand.tmp 6), type := 29, pos := "law.go:122", after := #[{ on := 17, ground := Go.Ground.guard }], guard := some (17, true) }) (v := ?_) rfl (by kernel_rfl) (by kernel_rfl) (by kernel_rfl) (by kernel_rfl) (fun _ _ _ h => h) (Or.inl ⟨by rfl, ?_⟩) (by assumption) ?_
          rotate_left
          (intro w hSw; (try dsimp only at hSw); go_simp; try (with_reducible rfl))
          try simp only [Act.put, List.setIfInBounds_toArray, List.set_cons_zero, List.set_cons_succ]
          refine wpAnyZ_take (i := 19) (oi := { dst := some 76, op := Go.Op.call { callee := Go.Callee.builtin Go.Builtin.len, args := #[Go.Operand.tmp 75], argTypes := #[29] }, type := 3, pos := "law.go:122", after := #[{ on := 18, ground := Go.Ground.data }, { on := 17, ground := Go.Ground.guard }], guard := some (17, true) }) (v := ?_) rfl (by kernel_rfl) (by kernel_rfl) (by kernel_rfl) (by kernel_rfl) (fun _ _ _ h => h) (Or.inl ⟨by rfl, ?_⟩) (by assumption) ?_
          rotate_left
          (intro w hSw; (try dsimp only at hSw); go_simp; try (with_reducible rfl))
          try simp only [Act.put, List.setIfInBounds_toArray, List.set_cons_zero, List.set_cons_succ]
          refine wpAnyZ_take (i := 20) (oi := { dst := some 77, op := Go.Op.load 28 (Go.Operand.tmp 5), type := 28, pos := "law.go:122", after := #[{ on := 17, ground := Go.Ground.guard }], guard := some (17, true) }) (v := ?_) rfl (by kernel_rfl) (by kernel_rfl) (by kernel_rfl) (by kernel_rfl) (fun _ _ _ h => h) (Or.inl ⟨by rfl, ?_⟩) (by assumption) ?_
          rotate_left
          (intro w hSw; (try dsimp only at hSw); go_simp; try (with_reducible rfl))
          try simp only [Act.put, List.setIfInBounds_toArray, List.set_cons_zero, List.set_cons_succ]
          refine wpAnyZ_step (i := 21) (o := { dst := some 78, op := Go.Op.call { callee := Go.Callee.value (Go.Operand.func 17), args := #[Go.Operand.tmp 77], argTypes := #[28] }, type := 3, pos := "law.go:122", after := #[{ on := 20, ground := Go.Ground.data }, { on := 17, ground := Go.Ground.chain }, { on := 17, ground := Go.Ground.guard }], guard := some (17, true) }) (by kernel_rfl) (by kernel_rfl) (fun Kq hK => ?_)
          go_simp
          go_at_call 17
          refine (gLen_any _ _ _ _).mono ?_
          rintro e x3 ⟨rfl, g3⟩
          refine hK.out _ _ (KS.out _ (hHeld.1.trans g3.tch)) (fun hH2 => ?_)
          clear hHeld hK Kq
          have hHeld := hH2
          clear hH2
          try simp only [Act.put, List.setIfInBounds_toArray, List.set_cons_zero, List.set_cons_succ]
          have TL := hid hHeld.1
          obtain ⟨cr, fr, ro2⟩ := cf_tD hHeld.1 RX.out
          clear g3
          refine wpAnyZ_take (i := 22) (oi := { dst := some 79, op := Go.Op.binOp Go.BinOp.eql 3 (Go.Operand.tmp 76) (Go.Operand.tmp 78) 3, type := 4, pos := "law.go:122", after := #[{ on := 19, ground := Go.Ground.data }, { on := 21, ground := Go.Ground.data }, { on := 17, ground := Go.Ground.guard }], guard := some (17, true) }) (v := ?_) rfl (by kernel_rfl) (by kernel_rfl) (by kernel_rfl) (by kernel_rfl) (fun _ _ _ h => h) (Or.inl ⟨by rfl, ?_⟩) (by assumption) ?_
          rotate_left
          (intro w hSw; (try dsimp only at hSw); go_simp; try (with_reducible rfl))
          try simp only [Act.put, List.setIfInBounds_toArray, List.set_cons_zero, List.set_cons_succ]
          refine wpAnyZ_take (i := 23) (oi := { dst := some 80, op := Go.Op.pick (Go.Operand.tmp 74) (Go.Operand.tmp 79) (Go.Operand.const (Go.Value.bool false)), type := 4, pos := "law.go:122", after := #[{ on := 17, ground := Go.Ground.data }, { on := 22, ground := Go.Ground.data }], guard := none }) (v := ?_) rfl (by kernel_rfl) (by kernel_rfl) (by kernel_rfl) (by kernel_rfl) (fun _ _ _ h => h) (Or.inl ⟨by rfl, ?_⟩) (by assumption) ?_
          rotate_left
          (intro w hSw; (try dsimp only at hSw); go_simp; try (with_reducible rfl))
          try simp only [Act.put, List.setIfInBounds_toArray, List.set_cons_zero, List.set_cons_succ]
          refine wpAnyZ_last (o := { dst := none, op := Go.Op.store 4 (Go.Operand.tmp 4) (Go.Operand.tmp 80), type := 0, pos := "law.go:122", after := #[{ on := 23, ground := Go.Ground.data }, { on := 21, ground := Go.Ground.chain }, { on := 0, ground := Go.Ground.phase }, { on := 1, ground := Go.Ground.phase }, { on := 2, ground := Go.Ground.phase }, { on := 3, ground := Go.Ground.phase }, { on := 4, ground := Go.Ground.phase }, { on := 5, ground := Go.Ground.phase }, { on := 6, ground := Go.Ground.phase }, { on := 7, ground := Go.Ground.phase }, { on := 8, ground := Go.Ground.phase }, { on := 9, ground := Go.Ground.phase }, { on := 10, ground := Go.Ground.phase }, { on := 11, ground := Go.Ground.phase }, { on := 12, ground := Go.Ground.phase }, { on := 13, ground := Go.Ground.phase }, { on := 14, ground := Go.Ground.phase }, { on := 15, ground := Go.Ground.phase }, { on := 16, ground := Go.Ground.phase }, { on := 17, ground := Go.Ground.phase }, { on := 18, ground := Go.Ground.phase }, { on := 19, ground := Go.Ground.phase }, { on := 20, ground := Go.Ground.phase }, { on := 21, ground := Go.Ground.phase }, { on := 22, ground := Go.Ground.phase }, { on := 23, ground := Go.Ground.phase }], guard := none }) (by kernel_rfl) (by kernel_rfl) (fun Kq hK => ?_)
          go_simp
          refine hK.out _ _ ?_
          clear hK Kq
          try simp only [Act.put, List.setIfInBounds_toArray, List.set_cons_zero, List.set_cons_succ]
          clear hHeld KS
          refine wpAnyZ_done (by kernel_rfl) (NoPanic.normal ?_) _
          generalize hy3 : x3 = y3 at *
          have ty := TL.out.size
          have lx := LX.out
          have ldd := LD.out
          have hsx := HSX.out
          have k2 := TL.out.obj KX2.out (by simp)
          have k1 := TL.out.obj (TX.out.obj KD.out (by simp)) (by simp)
          have kd2 : (y3.setCell ⟨w.heap.size + 1 + 1, 0, none⟩ (.bool true)).heap[D2]? = some (.deferred (some [])) := (Below.heap_setCell _ _ _ _ (fun e => by simp at e; omega)).trans k2
          have kd1 : (y3.setCell ⟨w.heap.size + 1 + 1, 0, none⟩ (.bool true)).heap[D]? = some (.deferred (some [])) := (Below.heap_setCell _ _ _ _ (fun e => by simp at e; omega)).trans k1
          have kd1b : ((y3.setCell ⟨w.heap.size + 1 + 1, 0, none⟩ (.bool true)).putObj D2 (.deferred none)).heap[D]? = some (.deferred (some [])) := (World.putObj_heap_other (by omega)).trans kd1
          have BY : (y3.setCell ⟨w.heap.size + 1 + 1, 0, none⟩ (.bool true)).heap[w.heap.size + 1 + 1]? = some (.cells #[.bool true] 4 (0, 0)) := heap_setCell_same _ _ _ _ _ _ ro2
          have BZ : (((y3.setCell ⟨w.heap.size + 1 + 1, 0, none⟩ (.bool true)).putObj D2 (.deferred none)).putObj D (.deferred none)).heap[w.heap.size + 1 + 1]? = some (.cells #[.bool true] 4 (0, 0)) := (World.putObj_heap_other (by omega)).trans ((World.putObj_heap_other (by omega)).trans BY)
          have e0 := cell_of_row _ _ 0 _ _ _ BZ
          simp only [List.getElem?_toArray, List.getElem?_cons_zero] at e0
          have F0 : Tch [] w y3 := (T0W.out.trans TX.out).trans TL.out
          have F1 : Tch [] w (y3.setCell ⟨w.heap.size + 1 + 1, 0, none⟩ (.bool true)) := F0.setCell (p := ⟨w.heap.size + 1 + 1, 0, none⟩) (.inr (by show w.heap.size ≤ w.heap.size + 1 + 1; omega)) _
          have F2 : Tch [] w ((y3.setCell ⟨w.heap.size + 1 + 1, 0, none⟩ (.bool true)).putObj D2 (.deferred none)) := F1.trans2 (Tch.of_grown (S := [D2]) (Go.grownBy_putObj' _ D2 _) (fun k e => by cases e; simp)) (fun k hk => .inr (by simp at hk; omega))
          have F3 : Tch [] w (((y3.setCell ⟨w.heap.size + 1 + 1, 0, none⟩ (.bool true)).putObj D2 (.deferred none)).putObj D (.deferred none)) := F2.trans2 (Tch.of_grown (S := [D]) (Go.grownBy_putObj' _ D _) (fun k e => by cases e; simp)) (fun k hk => .inr (by simp at hk; omega))
          go_wp2_with fail
          refine ⟨by simp, .inl ⟨_, _, rfl, run_takeDeferred kd2, ?_⟩⟩
          refine ⟨by simp, .inl ⟨_, _, rfl, run_takeDeferred kd1b, ?_⟩⟩
          exact ⟨_, (show (results _ _).run _ _ = .ok (.bool true) _ by simp [results, Try.results3, go_sem, e0]), rfl, F3⟩

set_option maxRecDepth 100000 in
set_option maxHeartbeats 4000000 in
theorem domAll_heavy (N : Int) (ea : Option Addr) (ec m : Nat) (st : Int) (w : World) (hL : 40 < m) :
    Calls Try.prog 3 #[.agg #[.int .u8 N, .slice ea m ec], .int .u8 st] w fun e w' => e = .returned (.bool true) ∧ Tch [] w w' := by
  go_enter Try.func3, Try.ntmps3
  go_upto_region 1 with fail
  generalize hW0 : ((w.alloc (.cells #[.int .u8 N, .slice ea m ec] 24)).alloc (.cells #[.int .u8 st] 5)).alloc (.cells #[.bool false] 4) = w0 at *
  have T0 : Hid (Tch [] w w0) := by rw [← hW0]; exact (((Tch.refl [] w).alloc _).alloc _).alloc _
  have O0 : Hid (w0.heap[w.heap.size]? = some (.cells #[.int .u8 N, .slice ea m ec] 24 (0, 0))) := by rw [← hW0]; exact (((Gr.refl _).alloc _).alloc _).obj (heap_alloc_new w _)
  have R0 : Hid (w0.heap[w.heap.size + 1 + 1]? = some (.cells #[.bool false] 4 (0, 0))) := by
    rw [← hW0]
    have := heap_alloc_new ((w.alloc (.cells #[.int .u8 N, .slice ea m ec] 24)).alloc (.cells #[.int .u8 st] 5)) (.cells #[.bool false] 4)
    exact hid (by simpa using this)
  clear hW0
  have HA := hid (awake_d w0)
  go_upto_region 3 with (go_at_call 8; refine HA.out.mono ?_; rintro e w1 ⟨rfl, t1⟩; have T1 := hid (T0.out.trans t1); have O1 := hid (t1.obj O0.out (by simp)); have R1 := hid (t1.obj R0.out (by simp)); clear t1)
  have y0 := cell_of_row _ _ 0 _ _ _ O1.out
  have y1 := cell_of_row _ _ 1 _ _ _ O1.out
  simp only [List.getElem?_toArray, List.getElem?_cons_zero, List.getElem?_cons_succ] at y0 y1
  have HLi := hid (lightG_any N ea m ec w1)
  rw [show decide (((m : Nat) : Int) ≤ 40) = false by simp; omega] at HLi
  clear HA T0 O0 R0
  go_wp2_with (go_at_call 9; refine HLi.out.mono ?_; rintro e w2 ⟨rfl, g2⟩; have T2 := hid (T1.out.trans g2.tch); obtain ⟨cr, fr, ro⟩ := cf_tD g2.tch R1.out; clear g2)
  have BY : (w2.setCell ⟨w.heap.size + 1 + 1, 0, none⟩ (.bool true)).heap[w.heap.size + 1 + 1]? = some (.cells #[.bool true] 4 (0, 0)) := heap_setCell_same _ _ _ _ _ _ ro
  have e0 := cell_of_row _ _ 0 _ _ _ BY
  simp only [List.getElem?_toArray, List.getElem?_cons_zero] at e0
  exact bodyPost_ret (v := .bool true) (by simp [results, Try.results3, go_sem, e0]) rfl ⟨rfl, T2.out.setCell (p := ⟨w.heap.size + 1 + 1, 0, none⟩) (.inr (by show w.heap.size ≤ w.heap.size + 1 + 1; omega)) _⟩
theorem domAll_any (N : Int) (ev : Value) (es : List (Int × Int)) (st : Int) (w : World) (hE : EdgOk w N ev es) (hst : 0 ≤ st ∧ st ≤ 255) :
    Calls Try.prog 3 #[.agg #[.int .u8 N, ev], .int .u8 st] w fun e w' => e = .returned (.bool true) ∧ Tch [] w w' := by
  obtain ⟨ea, ec, rfl, _⟩ := hE.c.shape
  by_cases h : es.length ≤ 40
  · exact domAll_light N ea ec es st w hE hst h
  · exact domAll_heavy N ea ec es.length st w (by omega)
end Go.Proofs.Ytpmdeilnkholgaa
