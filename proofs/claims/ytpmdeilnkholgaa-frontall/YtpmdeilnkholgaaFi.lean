/- Joined: ClnI, FwP, FwA. -/
import Derived.Test.YtpmdeilnkholgaaAllI
import Derived.Test.YtpmdeilnkholgaaKf
import Derived.Laws.Rows
import Derived.Test.YtpmdeilnkholgaaFh
import Derived.Test.YtpmdeilnkholgaaFf
import Derived.Deep.RegionHeld3
import Derived.Deep.LoopGhost


/- What the calls of Clone and Same come to. -/
set_option linter.unusedSimpArgs false
set_option linter.unusedVariables false
namespace Go.Proofs.Ytpmdeilnkholgaa
open Go.RowKit

set_option maxRecDepth 100000 in
set_option maxHeartbeats 1000000 in
/-- **Clone.** -/
theorem clone_I (v : Value) (l : List (Int)) (w : World) (h : Seg w 3 v (valsI l)) (hl : l.length * 8 ≤ 140737488351232) :
    Calls Try.prog 25 #[.agg #[v]] w fun e w' => ∃ v', e = .returned (.agg #[v']) ∧ Seg w' 3 v' (valsI l) ∧ (∀ b ∈ blks v', w.heap.size ≤ b) ∧ Below w.heap.size w w' := by
  have hv := seg_one h
  have hcl := cells_one hv
  simp only [Value.cells] at hcl
  have z2 : ((w.alloc (.cells #[v] 52)).alloc (.cells #[.slice none 0 0] 52)).heap.size = w.heap.size + 2 := by simp
  have b2 : Below w.heap.size w ((w.alloc (.cells #[v] 52)).alloc (.cells #[.slice none 0 0] 52)) := ((Below.refl _ w).alloc (Nat.le_refl _) _).alloc (by simp) _
  have hli := list_I v l ((w.alloc (.cells #[v] 52)).alloc (.cells #[.slice none 0 0] 52)) ((h.alloc _).alloc _) hl
  have o2 : ((w.alloc (.cells #[v] 52)).alloc (.cells #[.slice none 0 0] 52)).heap[w.heap.size + 1]? = some (.cells #[.slice none 0 0] 52 (0, 0)) := by
    have := heap_alloc_new (w.alloc (.cells #[v] 52)) (.cells #[.slice none 0 0] 52)
    simpa using this
  rw [z2] at hli
  have B2 := hid b2
  have O2 := hid o2
  clear h b2 o2 z2
  go_enter Try.func25, Try.ntmps25
  go_wp2_with fail
  refine hli.mono ?_
  clear hli
  rintro e w3 ⟨v3, rfl, p1, p2, p3⟩
  obtain ⟨ao3, ac3, rfl⟩ := seg_slice p1
  have o3 : w3.heap[w.heap.size + 1]? = some (.cells #[.slice none 0 0] 52 (0, 0)) := (p3.block _ (by omega)).trans O2.out
  have c3 : w3.cell? ⟨w.heap.size + 1, 0, none⟩ = some (.slice none 0 0) := by rw [cell_of_row _ _ 0 _ _ _ o3]; rfl
  have f3 := frozen_of_row _ _ 0 _ _ o3
  have P1 := hid p1
  have P2 := hid p2
  have P3 := hid p3
  have O3 := hid o3
  clear p1 p2 p3 o3
  go_wp2_with fail
  have t4 : Tch [w.heap.size + 1] w3 (w3.setCell ⟨w.heap.size + 1, 0, none⟩ (.slice ao3 (valsI l).length ac3)) := (Tch.refl _ w3).setCell (p := ⟨w.heap.size + 1, 0, none⟩) (.inl (by simp)) _
  have o4 : (w3.setCell ⟨w.heap.size + 1, 0, none⟩ (.slice ao3 (valsI l).length ac3)).heap[w.heap.size + 1]? = some (.cells #[.slice ao3 (valsI l).length ac3] 52 (0, 0)) := heap_setCell_same w3 (w.heap.size + 1) 0 _ _ _ O3.out
  refine bodyPost_ret (v := .agg #[.slice ao3 (valsI l).length ac3]) (results_cell_row Try.results25 _ _ (w.heap.size + 1) 52 _ (0, 0) _ rfl o4 Try.underlying52 rfl (by kernel_rfl)) rfl ?_
  have hz : w.heap.size + 2 ≤ w3.heap.size := by have := P3.out.size; simp at this; omega
  have b3 : Below w.heap.size w w3 := B2.out.trans (P3.out.mono (by omega))
  exact ⟨_, rfl, P1.out.kept t4 (fun b hb => by have := P2.out b hb; simp; omega), fun b hb => by have := P2.out b hb; omega, b3.trans (t4.below (by omega) (by simp))⟩
set_option maxRecDepth 100000 in
set_option maxHeartbeats 1000000 in
/-- **Same.** -/
theorem same_I (u v : Value) (l m : List (Int)) (w : World) (hu : Seg w 3 u (valsI l)) (hv : Seg w 3 v (valsI m)) (hl : l.length < 4611686018427387904) (hm : m.length < 4611686018427387904) :
    Calls Try.prog 24 #[.agg #[u], .agg #[v]] w fun e w' => e = .returned (.bool (sameI l m)) ∧ Below w.heap.size w w' := by
  have hcu := cells_one (seg_one hu)
  have hcv := cells_one (seg_one hv)
  simp only [Value.cells] at hcu hcv
  have heq := equal_I u v l m ((w.alloc (.cells #[u] 52)).alloc (.cells #[v] 52)) ((hu.alloc _).alloc _) ((hv.alloc _).alloc _) hl hm
  have b2 := hid (((Below.refl w.heap.size w).alloc (Nat.le_refl _) (.cells #[u] 52)).alloc (by simp) (.cells #[v] 52))
  clear hu hv
  go_enter Try.func24, Try.ntmps24
  go_wp2_with (go_at_call 16; refine heq.mono ?_; rintro e w3 ⟨rfl, q, rfl⟩)
  go_ret
  exact ⟨rfl, b2.out.trans ⟨rfl, rfl, rfl, Nat.le_refl _, fun _ _ => rfl⟩⟩
end Go.Proofs.Ytpmdeilnkholgaa


/- Plain: what FrontAll reckons by itself. -/
set_option linter.unusedSimpArgs false
set_option linter.unusedVariables false
namespace Go.Proofs.Ytpmdeilnkholgaa
open Go.RowKit Go.Sort Go.Maps

/-- How many are not in. -/
def cF (f : Nat → Bool) : Nat → Nat
  | 0 => 0
  | k + 1 => cF f k + if f k = true then 0 else 1
theorem cF_other (f : Nat → Bool) (v : Nat) (b : Bool) : ∀ k, k ≤ v → cF (updN f v b) k = cF f k
  | 0, _ => rfl
  | k + 1, h => by rw [cF, cF, cF_other f v b k (by omega), updN_other _ _ (by omega)]
theorem cF_put (f : Nat → Bool) (v : Nat) (hf : f v = false) : ∀ k, v < k → cF (updN f v true) k + 1 = cF f k
  | 0, h => by omega
  | k + 1, h => by
    by_cases e : v = k
    · subst e
      rw [cF, cF, cF_other f v true v (Nat.le_refl _), updN_same, hf]; simp
    · have := cF_put f v hf k (by omega)
      rw [cF, cF, updN_other _ _ (by omega)]; omega
section
variable {Sf : Int → List Int} {n : Nat} {st : List Int} {T : Nat → Nat → Bool}
def Snd (Sf : Int → List Int) (n : Nat) (st : List Int) (f : Nat → Bool) : Prop := ∀ v : Nat, v < n → f v = true → AllR Sf n st v
def ClsU (n : Nat) (st : List Int) (T : Nat → Nat → Bool) (f : Nat → Bool) (r : Nat) : Prop := ∀ r' : Nat, r' < r → (f r' = true ∨ (r' : Int) ∈ st) → ∀ v, v < n → T r' v = true → f v = true
theorem snd_cls (hT : ∀ r v : Nat, (v : Int) ∈ Sf r ↔ T r v = true) (hS : ∀ x, ∀ y ∈ Sf x, 0 ≤ y ∧ y < n) {f : Nat → Bool} (h1 : Snd Sf n st f) (h2 : ClsU n st T f n) (v : Nat) (hv : v < n) : f v = true ↔ AllR Sf n st v := by
  refine ⟨h1 v hv, fun g => ?_⟩
  suffices H : ∀ y : Int, AllR Sf n st y → ∀ v : Nat, y = v → v < n → f v = true from H v g v rfl hv
  intro y g
  induction g with
  | @base x y hx h0 hn hy =>
    rintro v rfl hv
    obtain ⟨xn, rfl⟩ : ∃ xn : Nat, x = xn := ⟨x.toNat, by omega⟩
    exact h2 xn (by omega) (.inr hx) v hv ((hT xn v).1 hy)
  | @step x y hx h0 hn hy ih =>
    rintro v rfl hv
    obtain ⟨xn, rfl⟩ : ∃ xn : Nat, x = xn := ⟨x.toNat, by omega⟩
    exact h2 xn (by omega) (.inl (ih xn rfl (by omega))) v hv ((hT xn v).1 hy)
theorem snd_put (hT : ∀ r v : Nat, (v : Int) ∈ Sf r ↔ T r v = true) {f : Nat → Bool} (h : Snd Sf n st f) {r v : Nat} (hr : r < n) (ha : f r = true ∨ (r : Int) ∈ st) (ht : T r v = true) : Snd Sf n st (updN f v true) := fun u hu hf => by
  by_cases e : u = v
  · subst e
    have hy := (hT r u).2 ht
    rcases ha with h1 | h1
    · exact .step (h r hr h1) (by omega) (by omega) hy
    · exact .base h1 (by omega) (by omega) hy
  · rw [updN_other _ _ e] at hf; exact h u hu hf
/-- One pass: what holds at r. -/
structure Pas (Sf : Int → List Int) (n : Nat) (st : List Int) (T : Nat → Nat → Bool) (f : Nat → Bool) (r : Nat) (ag : Bool) (g : Nat → Bool) : Prop where
  s : Snd Sf n st g
  no : ag = false → g = f ∧ ClsU n st T g r
  yes : ag = true → cF g n < cF f n
/-- .. at r, v. -/
structure Pav (Sf : Int → List Int) (n : Nat) (st : List Int) (T : Nat → Nat → Bool) (f : Nat → Bool) (r v : Nat) (ag : Bool) (g : Nat → Bool) : Prop where
  s : Snd Sf n st g
  a : g r = true ∨ (r : Int) ∈ st
  no : ag = false → g = f ∧ ClsU n st T g r ∧ ∀ v', v' < v → T r v' = true → g v' = true
  yes : ag = true → cF g n < cF f n
theorem pas_0 {f : Nat → Bool} (h : Snd Sf n st f) : Pas Sf n st T f 0 false f := ⟨h, fun _ => ⟨rfl, fun r' hr => by omega⟩, by simp⟩
theorem Pas.skip {f g : Nat → Bool} {r : Nat} {ag : Bool} (h : Pas Sf n st T f r ag g) (h1 : g r = false) (h2 : ¬ (r : Int) ∈ st) : Pas Sf n st T f (r + 1) ag g := ⟨h.s, fun e => ⟨(h.no e).1, fun r' hr ha => by
  by_cases e2 : r' = r
  · subst e2
    rcases ha with ha | ha
    · rw [h1] at ha; cases ha
    · exact absurd ha h2
  · exact (h.no e).2 r' (by omega) ha⟩, h.yes⟩
theorem Pas.into {f g : Nat → Bool} {r : Nat} {ag : Bool} (h : Pas Sf n st T f r ag g) (ha : g r = true ∨ (r : Int) ∈ st) : Pav Sf n st T f r 0 ag g := ⟨h.s, ha, fun e => ⟨(h.no e).1, (h.no e).2, fun v' hv => by omega⟩, h.yes⟩
theorem Pav.out {f g : Nat → Bool} {r : Nat} {ag : Bool} (h : Pav Sf n st T f r n ag g) : Pas Sf n st T f (r + 1) ag g := ⟨h.s, fun e => ⟨(h.no e).1, fun r' hr ha v hv ht => by
  by_cases e2 : r' = r
  · subst e2; exact (h.no e).2.2 v hv ht
  · exact (h.no e).2.1 r' (by omega) ha v hv ht⟩, h.yes⟩
theorem Pav.stay {f g : Nat → Bool} {r v : Nat} {ag : Bool} (h : Pav Sf n st T f r v ag g) (hv : T r v = true → g v = true) : Pav Sf n st T f r (v + 1) ag g := ⟨h.s, h.a, fun e => ⟨(h.no e).1, (h.no e).2.1, fun v' hv' ht => by
  by_cases e2 : v' = v
  · subst e2; exact hv ht
  · exact (h.no e).2.2 v' (by omega) ht⟩, h.yes⟩
theorem Pav.put (hT : ∀ r v : Nat, (v : Int) ∈ Sf r ↔ T r v = true) {f g : Nat → Bool} {r v : Nat} {ag : Bool} (h : Pav Sf n st T f r v ag g) (hr : r < n) (hv : v < n) (ht : T r v = true) (hg : g v = false) : Pav Sf n st T f r (v + 1) true (updN g v true) := by
  have hc := cF_put g v hg n hv
  refine ⟨snd_put hT h.s hr h.a ht, ?_, by simp, fun _ => ?_⟩
  · by_cases e : r = v
    · subst e; left; rw [updN_same]
    · rw [updN_other _ _ e]; exact h.a
  · cases ag with
    | false => rw [(h.no rfl).1] at hc ⊢; omega
    | true => have := h.yes rfl; omega
end
end Go.Proofs.Ytpmdeilnkholgaa


/- FrontAll (P9.1): its walk. -/
set_option linter.unusedSimpArgs false
set_option linter.unusedVariables false
namespace Go.Proofs.Ytpmdeilnkholgaa
open Go.RowKit Go.Sort Go.Maps

theorem flat_get {α β : Type} (f : α → β) (l : List α) (k : Nat) : (l.flatMap fun y => [f y])[k]? = (l[k]?).map f := by
  rw [show (l.flatMap fun y => [f y]) = l.map f by induction l with
    | nil => rfl
    | cons a l ih => simp [ih]]
  simp
set_option maxRecDepth 100000 in
set_option maxHeartbeats 40000000 in
theorem frontAll_light (N : Int) (ea : Option Addr) (ec : Nat) (es : List (Int × Int)) (ua2 : Option Addr) (uc2 : Nat) (us : List Int) (w : World) (hE : EdgOk w N (.slice ea es.length ec) es) (hL : es.length ≤ 40) (hU : Cel w 1 (.slice ua2 us.length uc2) us.length (us.flatMap fun y => [.int .u8 y])) (hUr : ∀ y ∈ us, 0 ≤ y ∧ y ≤ 255) (hUl : us.length ≤ 12) :
    Calls Try.prog 5 #[.agg #[.int .u8 N, .slice ea es.length ec], .slice ua2 us.length uc2] w fun e w' => e = .returned (.bool true) ∧ Tch [] w w' := by
  have HU := hid hU
  have HUR := hid hUr
  have hul : ¬ ((12 : Int) < (us.length : Int)) := by omega
  clear hU hUr
  obtain ⟨n, hn, hn1, hn2⟩ := edg_n hE.r
  have HE := hid hE
  have HN := hid hn
  have hmo : Try.prog.follows .mixedOrders = true := by kernel_rfl
  clear hE hn
  go_enter Try.func5, Try.ntmps5
  go_upto_region 1 with fail
  have T0 := hid ((Tch.refl [] w).alloc (.cells #[.int .u8 N, .slice ea es.length ec] 24))
  have O0 := hid (heap_alloc_new w (.cells #[.int .u8 N, .slice ea es.length ec] 24))
  generalize w.alloc (.cells #[.int .u8 N, .slice ea es.length ec] 24) = w0 at *
  have HA := hid (awake_f w0)
  go_upto_region 3 with (go_at_call 18; refine HA.out.mono ?_; rintro e w1 ⟨rfl, t1⟩; have T1 := hid (T0.out.trans t1); have O1 := hid (t1.obj O0.out (by simp)); clear t1)
  have y0 := cell_of_row _ _ 0 _ _ _ O1.out
  have y1 := cell_of_row _ _ 1 _ _ _ O1.out
  simp only [List.getElem?_toArray, List.getElem?_cons_zero, List.getElem?_cons_succ] at y0 y1
  have HLi := hid (lightG_any N ea es.length ec w1)
  rw [show decide (((es.length : Nat) : Int) ≤ 40) = true by simp; omega] at HLi
  clear HA T0 O0
  go_upto_region 5 with (go_at_call 9; refine HLi.out.mono ?_; rintro e w2 ⟨rfl, g2⟩; have T2 := hid (T1.out.trans g2.tch); replace y0 := g2.val y0; replace y1 := g2.val y1; clear g2)
  have HS := hid (sgraph_any N (.slice ea es.length ec) es n w2 (HE.out.r) HN.out (HE.out.tch T2.out).c HE.out.w (by omega))
  clear HLi T1 O1
  go_upto_region 6 with (go_at_call 10; refine HS.out.mono ?_; rintro e w3 ⟨K, lo, bm, am, lb, vF, vA, vL, A, rfl, gl3, fa3, t3, hK, q1, q2, q3⟩; have GL3 := hid gl3; have FA3 := hid fa3; have T3 := hid (T2.out.trans t3); clear gl3 fa3 t3)
  have t4 : Tch [] w3 (w3.alloc (.cells #[.int .i64 n, .map (some bm), .map (some am)] 28)) := (Tch.refl [] w3).alloc _
  have o4 := heap_alloc_new w3 (.cells #[.int .i64 n, .map (some bm), .map (some am)] 28)
  generalize w3.alloc (.cells #[.int .i64 n, .map (some bm), .map (some am)] 28) = w4 at *
  have GL4 := hid (GL3.out.tch t4)
  have T4 := hid (T3.out.trans t4)
  have O4 := hid o4
  generalize hF : edgF n es = F at *
  clear GL3 T3 t4 o4 HS T2 q1 q2 q3 y0 y1 HE HN hF
  generalize w3.heap.size = gb at *
  have z0 := cell_of_row _ _ 0 _ _ _ O4.out
  have z1 := cell_of_row _ _ 1 _ _ _ O4.out
  have z2 := cell_of_row _ _ 2 _ _ _ O4.out
  simp only [List.getElem?_toArray, List.getElem?_cons_zero, List.getElem?_cons_succ] at z0 z1 z2
  have HOF : Hid (∀ W, Tch [] w4 W → Calls Try.prog 11 #[.agg #[.int .i64 n, .map (some bm), .map (some am)]] W fun e w' => OfQ F W w' e) := fun W t => of_all (n0 := n) (GL4.out.tch t).g (FA3.out.mono (by omega)) (by omega) (by omega)
  have HFR : Hid (∀ W, Tch [] w4 W → ∀ {mb pc uc ec2 L : Nat} {pa ua ea2 : Option Addr} {pl up : List Int} {enf : Nat → Int} {pr : Nat → Nat}, TrV W mb (.slice pa L pc) (.slice ua L uc) (.slice ea2 L ec2) pl up ((List.range pl.length).map enf) → DTree F pl up enf pr → pl.length = L → L ≤ 900 → Calls Try.prog 19 #[.agg #[.int .i64 n, .map (some bm), .map (some am)], .agg #[.slice pa L pc, .slice ua L uc, .slice ea2 L ec2, .map (some mb)]] W fun e w' => FOfP F pl enf n W w' e) := fun W t => fun tv dt hL hL9 => frontOf_any (n := n) (GL4.out.tch t).g FA3.out tv dt hL (by omega) hL9
  have KS : Hid (∀ w', Tch [] w4 w' → Tch [] w4 w' ∧ w'.cell? ⟨gb, 0, none⟩ = some (.int .i64 n) ∧ w'.cell? ⟨gb, 1, none⟩ = some (.map (some bm)) ∧ w'.cell? ⟨gb, 2, none⟩ = some (.map (some am))) := fun w' t => ⟨t, t.val0 z0, t.val0 z1, t.val0 z2⟩
  refine wp_region_noPanic ?_
  refine wp_region_held_drew (S := fun w' => Tch [] w4 w' ∧ w'.cell? ⟨gb, 0, none⟩ = some (.int .i64 n) ∧ w'.cell? ⟨gb, 1, none⟩ = some (.map (some bm)) ∧ w'.cell? ⟨gb, 2, none⟩ = some (.map (some am))) hmo (KS.out _ (Tch.refl _ _).drew) (fun hHeld => ?_)
  generalize w4.drew = x0 at *
  refine wpAnyH_take (i := 0) (v := ?_) rfl (by kernel_rfl) (by kernel_rfl) (by kernel_rfl) (fun _ _ _ h => h) (Or.inl ⟨by rfl, ?_⟩) (by assumption) ?_
  rotate_left
  (intro w hSw; (try dsimp only at hSw); go_simp; try (with_reducible rfl))
  try simp only [Act.put, List.setIfInBounds_toArray, List.set_cons_zero, List.set_cons_succ]
  refine wpAnyH_take (i := 1) (v := ?_) rfl (by kernel_rfl) (by kernel_rfl) (by kernel_rfl) (fun _ _ _ h => h) (Or.inl ⟨by rfl, ?_⟩) (by assumption) ?_
  rotate_left
  (intro w hSw; (try dsimp only at hSw); go_simp; try (with_reducible rfl))
  try simp only [Act.put, List.setIfInBounds_toArray, List.set_cons_zero, List.set_cons_succ]
  refine wpAnyH_ready (rs := [2]) (by kernel_rfl) (by simp) (AllReadyH.cons rfl (fun Kq hK => ?_) AllReadyH.nil)
  go_simp
  go_at_call 11
  refine (HOF.out _ hHeld.1).mono ?_
  rintro e x1 ⟨mb, pa, pc, ua, uc, ea2, ec2, L, pl, up, enf, pr, rfl, tv, dt, hl, hL9, _, t7⟩
  refine hK.out _ _ (KS.out _ (hHeld.1.trans t7)) (fun hH2 => ?_)
  clear hHeld hK Kq
  have hHeld := hH2
  clear hH2
  try simp only [Act.put, List.setIfInBounds_toArray, List.set_cons_zero, List.set_cons_succ]
  have TV := hid tv
  have DT := hid dt
  have HL := hid hl.out
  have TX := hid hHeld.1
  clear tv dt hl t7
  have HFO := hid (HFR.out x1 TX.out TV.out DT.out HL.out hL9)
  refine wpAnyH_ready (rs := [3]) (by kernel_rfl) (by simp) (AllReadyH.cons rfl (fun Kq hK => ?_) AllReadyH.nil)
  go_simp
  go_at_call 19
  refine HFO.out.mono ?_
  rintro e x2 ⟨fb, lo2, vS, Sf, rfl, fr, hs, hfb, t8⟩
  refine hK.out _ _ (KS.out _ (hHeld.1.trans t8)) (fun hH2 => ?_)
  clear hHeld hK Kq
  have hHeld := hH2
  clear hH2
  try simp only [Act.put, List.setIfInBounds_toArray, List.set_cons_zero, List.set_cons_succ]
  have FR := hid fr
  have HS := hid hs
  have TF := hid hHeld.1
  have HFB : Hid (x1.heap.size ≤ fb) := hfb
  clear fr hs t8 hfb
  refine wpAnyH_take (i := 4) (v := ?_) rfl (by kernel_rfl) (by kernel_rfl) (by kernel_rfl) (fun _ _ _ h => h) (Or.inl ⟨by rfl, ?_⟩) (by assumption) ?_
  rotate_left
  (intro w hSw; (try dsimp only at hSw); go_simp; try (with_reducible rfl))
  try simp only [Act.put, List.setIfInBounds_toArray, List.set_cons_zero, List.set_cons_succ]
  refine wpAnyH_done (by kernel_rfl) (NoPanic.normal ?_) _
  have HLF : Hid ((∀ x, (F x).length ≤ 100) ∧ ∀ x, (A x).length ≤ 100) := ⟨FA3.out.lf, FA3.out.la⟩
  have HRG := hid FA3.out.rngN
  have HRF := hid (rfront_any (GL4.out.tch TF.out).r HRG.out (by omega) (fun x => by have := HLF.out.1 x; omega))
  have EQ : Hid (∀ r v : Nat, (v : Int) ∈ Sf r ↔ frB F n r v = true) := fun a b => by
    rw [HS.out, DT.out.frB (by omega) FA3.out]
  clear z0 z1 z2 KS hHeld HOF HFR HFO
  go_upto_region 8 with (go_at_call 20; refine HRF.out.mono ?_; rintro e w7 ⟨v7, vT, rfl, tb7⟩; have TB7 := hid tb7; have hs7 := tb7.s; obtain ⟨ob, oo, oc, hv7⟩ := hs7.ptr (by omega); subst hv7; clear tb7 hs7)
  have T7 : Hid (Tch [] x2 w7) := TB7.out.t
  have FR7 := hid (FR.out.tch T7.out)
  have TW7 : Hid (Tch [] w w7) := (T4.out.trans TF.out).trans T7.out
  clear HRF
  go_upto_region 9 with fail
  have o8 := heap_alloc_new w7 (.cells #[.slice none 0 0] 52)
  have t8 : Tch [] w7 (w7.alloc (.cells #[.slice none 0 0] 52)) := (Tch.refl [] w7).alloc _
  have s8 : (w7.alloc (.cells #[.slice none 0 0] 52)).heap.size = w7.heap.size + 1 := by simp
  generalize w7.alloc (.cells #[.slice none 0 0] 52) = w8 at *
  have I8 : Hid (SetAtI w8 w7.heap.size (.slice none 0 0) []) := ⟨o8, Seg.nil _ _, by simp [blks]⟩
  have T78 := hid t8
  have LS : Hid (w8.heap.size = w7.heap.size + 1) := s8
  clear o8 t8 s8
  generalize hsx : w7.heap.size = sx at *
  have HSX := hid hsx
  clear hsx
  go_wp2_with fail
  go_loopw [11, 41] (fun _ vi wr => ∃ (k : Nat) (va : Option Addr) (vc : Nat) (l : List Int), vi = .int .i64 k ∧ k ≤ us.length ∧ Hid (SetAtI wr sx (.slice va l.length vc) l ∧ Rise ltI l ∧ (∀ y, y ∈ l ↔ y ∈ (us.take k).map (fun u => u % ((n : Int) + 2))) ∧ l.length ≤ k ∧ (∀ b ∈ blks (.slice va l.length vc), w8.heap.size ≤ b) ∧ Tch [sx] w8 wr)) (fun _ vi _ => us.length - (intOf vi).toNat)
  case atStart => exact ⟨0, none, 0, [], rfl, Nat.zero_le _, I8.out, List.Pairwise.nil, by simp, by simp, by simp [blks], Tch.refl _ _⟩
  case round =>
    obtain ⟨k, va, vc, l, rfl, hk, HI⟩ := hrel
    rename World => wk
    clear I8
    by_cases hlt : k < us.length
    · have tww : Hid (Tch [] w wk) := (TW7.out.trans T78.out).trans2 HI.out.2.2.2.2.2 (fun j hj => .inr (by simp at hj; subst hj; rw [← HSX.out]; exact TW7.out.size))
      have hce := HU.out.tch tww.out
      obtain ⟨ub, uo, ucc, huv⟩ := hce.ptr (by omega)
      cases huv
      have ck : wk.cell? ⟨ub, uo + k, none⟩ = some (.int .u8 us[k]) := by
        obtain ⟨_, a0, c0, e0, _, h0 | ⟨b0, f0, e1, h0⟩⟩ := hce
        · omega
        · cases e0
          cases e1
          exact h0 k _ (by rw [flat_get]; simp [hlt])
      have hur := HUR.out _ (List.getElem_mem hlt)
      have HTK : Hid (us.take (k + 1) = us.take k ++ [us[k]]) := List.take_succ_eq_append_getElem hlt
      generalize us[k] = u at *
      have hmd : u.tmod ((n : Int) + 2) = u % ((n : Int) + 2) := Int.tmod_eq_emod_of_nonneg hur.1
      have hmb : 0 ≤ u % ((n : Int) + 2) ∧ u % ((n : Int) + 2) < n + 2 := ⟨Int.emod_nonneg _ (by omega), Int.emod_lt_of_pos _ (by omega)⟩
      obtain ⟨y, hy⟩ : ∃ y, u % ((n : Int) + 2) = y := ⟨_, rfl⟩
      rw [hy] at hmd hmb
      have hnz : ¬ ((n : Int) + 2 = 0) := by omega
      have hnm : ¬ ((n : Int) + 2 = -1) := by omega
      have MEM : Hid (∀ q, q ∈ (us.take (k + 1)).map (fun u => u % ((n : Int) + 2)) ↔ q ∈ (us.take k).map (fun u => u % ((n : Int) + 2)) ∨ q = y) := fun q => by rw [HTK.out, List.map_append, List.mem_append]; simp [hy]
      have HYE := hid hy
      clear hce hy
      have hi := HI.out
      cases hh : hasI y l with
      | true =>
        have HA := hid (add_no_I sx (.slice va l.length vc) l y wk hi.1 hi.2.1 (by omega) hh)
        have NX : Hid (SetAtI wk sx (.slice va l.length vc) l ∧ Rise ltI l ∧ (∀ q, q ∈ l ↔ q ∈ (us.take (k + 1)).map (fun u => u % ((n : Int) + 2))) ∧ l.length ≤ k + 1 ∧ (∀ b ∈ blks (.slice va l.length vc), w8.heap.size ≤ b) ∧ Tch [sx] w8 wk) := ⟨hi.1, hi.2.1, fun q => by
          rw [MEM.out, hi.2.2.1]
          refine ⟨.inl, fun h => ?_⟩
          rcases h with h | rfl
          · exact h
          · rw [← hi.2.2.1]; exact (has_iffI _ _).1 hh, by omega, hi.2.2.2.2.1, hi.2.2.2.2.2⟩
        clear hi hh
        go_wp2_with (go_at_call 22; refine HA.out.mono ?_; rintro e y1 ⟨rfl, rfl⟩)
        go_roundw
        case rel => exact ⟨k + 1, va, vc, l, by go_num, by omega, NX.out⟩
        case measure => simp [intOf]; omega
      | false =>
        have HA := hid (add_yes_I sx (.slice va l.length vc) l y wk hi.1 hi.2.1 (by omega) hh)
        have hno : ¬ y ∈ l := fun hm => by rw [(has_iffI _ _).2 hm] at hh; cases hh
        have NX : Hid (∀ X, PutI sx (.slice va l.length vc) (insAt l (cnt ltI y l) y) wk X → ∃ va2 vc2 l2, SetAtI X sx (.slice va2 l2.length vc2) l2 ∧ Rise ltI l2 ∧ (∀ q, q ∈ l2 ↔ q ∈ (us.take (k + 1)).map (fun u => u % ((n : Int) + 2))) ∧ l2.length ≤ k + 1 ∧ (∀ b ∈ blks (.slice va2 l2.length vc2), w8.heap.size ≤ b) ∧ Tch [sx] w8 X) := by
          rintro X ⟨v2, s2, t2, b2⟩
          obtain ⟨a2, c2, e2⟩ := seg_slice s2.2.1
          rw [vals_lenI] at e2
          subst e2
          refine ⟨a2, c2, _, s2, rise_insAt totI hi.2.1 y hno, fun q => ?_, by rw [insAt_length _ _ (cnt_le _ _)]; omega, fun b hb => ?_, hi.2.2.2.2.2.trans2 t2 (fun b hb => ?_)⟩
          · rw [mem_insAt, MEM.out, hi.2.2.1]; exact Or.comm
          · rcases b2 b hb with h | h
            · exact hi.2.2.2.2.1 b h
            · exact Nat.le_trans hi.2.2.2.2.2.size h
          · rcases List.mem_cons.1 hb with h | h
            · exact .inl (by simp [h])
            · exact .inr (hi.2.2.2.2.1 b h)
        clear hi hh hno
        go_wp2_with (go_at_call 22; refine HA.out.mono ?_; rintro e y1 ⟨rfl, p1⟩; have P1 := hid p1; clear p1)
        obtain ⟨va2, vc2, l2, nx⟩ := NX.out _ P1.out
        go_roundw
        case rel => exact ⟨k + 1, va2, vc2, l2, by go_num, by omega, nx⟩
        case measure => simp [intOf]; omega
    · have hnk : ¬ ((k : Int) < (us.length : Int)) := by omega
      obtain ⟨sva, hsva⟩ : ∃ q, va = q := ⟨_, rfl⟩
      obtain ⟨svc, hsvc⟩ : ∃ q, vc = q := ⟨_, rfl⟩
      obtain ⟨st, hst⟩ : ∃ q, l = q := ⟨_, rfl⟩
      subst hsva hsvc hst
      have HMEM : Hid (∀ y ∈ l, 0 ≤ y ∧ y < n + 2) := fun y hy => by
        obtain ⟨u, hu, e⟩ := List.mem_map.1 ((HI.out.2.2.1 y).1 hy)
        subst e
        exact ⟨Int.emod_nonneg _ (by omega), Int.emod_lt_of_pos _ (by omega)⟩
      have SETK := hid HI.out.1
      have RST := hid HI.out.2.1
      have hll : l.length ≤ 12 := by have := HI.out.2.2.2.1; omega
      have BLK := hid HI.out.2.2.2.2.1
      have T8K := hid HI.out.2.2.2.2.2
      have T7K : Hid (Tch [] w7 wk) := T78.out.trans2 T8K.out (fun j hj => .inr (by simp at hj; subst hj; rw [HSX.out]; exact Nat.le_refl _))
      have hmk := fun w => run_make_row' (P := Try.prog) 42 4 (.bool false) 1 Try.underlying42 (by kernel_rfl) rfl .i64 .i64 n (by omega) (by omega) w
      clear HI
      go_upto_region 16 with fail
      have T10 := hid ((Tch.refl [] wk).alloc (.cells (madeCells #[.bool false] n) 4))
      have B10 := hid (br_made n (heap_alloc_new wk (.cells (madeCells #[.bool false] n) 4)))
      have LIB : Hid (sx < wk.heap.size ∧ ∀ b ∈ blks (.slice va l.length vc), b < wk.heap.size) := ⟨lt_of_obj SETK.out.1, SETK.out.2.1.lt⟩
      generalize wk.alloc (.cells (madeCells #[.bool false] n) 4) = wt at *
      have LIB2 : Hid (w7.heap.size ≤ wk.heap.size) := T7K.out.size
      generalize wk.heap.size = ib at *
      have SETT : Hid (SetAtI wt sx (.slice va l.length vc) l) := ⟨T10.out.obj SETK.out.1 (by simp), SETK.out.2.1.kept T10.out (by simp), SETK.out.2.2⟩
      have T7T : Hid (Tch [] w7 wt) := T7K.out.trans T10.out
      have HCO : Hid (∀ r v : Nat, r < n → v < n → ∃ q, ∀ W, Tch [ib] wt W → W.cell? ⟨ob, oo + r, none⟩ = some (.slice (some ⟨q, 0, none⟩) n n) ∧ W.cell? ⟨q, v, none⟩ = some (.bool (frB F n r v))) := fun r v hr hv => by
        obtain ⟨b2, o2, q, e1, e2, e3⟩ := TB7.out.cells hr hv
        cases e1
        have l7 := LIB2.out
        have q2 : ob < w7.heap.size := cell_lt e2
        have q3 : q < w7.heap.size := cell_lt e3
        have q4 := HSX.out
        exact ⟨q, fun W t => ⟨t.cellN (T7T.out.val0 e2) (by simp; omega), t.cellN (T7T.out.val0 e3) (by simp; omega)⟩⟩
      have HST : Hid (∀ W, Tch [ib] wt W → SetAtI W sx (.slice va l.length vc) l) := fun W t => ⟨t.obj SETT.out.1 (by have := LIB.out.1; simp; omega), SETT.out.2.1.kept t (fun b hb h1 => by simp at h1; have := LIB.out.2 b hb; omega), SETT.out.2.2⟩
      have HHS : Hid (∀ W (r : Nat), Tch [ib] wt W → Calls Try.prog 21 #[.agg #[.slice va l.length vc], .int .i64 r] W fun e w' => e = .returned (.bool (hasI r l)) ∧ w' = W.alloc (.cells #[.slice va l.length vc] 52)) := fun W r t => hasOf_I _ l r W (HST.out W t).2.1 RST.out (by omega)
      clear SETK T8K T7K T10 hmk
      go_loopg [13, 14, 15] (cF (fun _ => false) n + 1) (fun g va2 _ _ wr => ∃ (ag : Bool) (f : Nat → Bool), va2 = .bool ag ∧ g = cF f n + (if ag = true then 1 else 0) ∧ Hid (Br n wr ib f ∧ Snd Sf n l f ∧ (ag = false → ClsU n l (frB F n) f n) ∧ Tch [ib] wt wr))
      case atStart => exact ⟨true, fun _ => false, rfl, by simp, B10.out, fun v hv h => by simp at h, by simp, Tch.refl _ _⟩
      case round =>
        obtain ⟨ag, f, rfl, hg, HI⟩ := hrel
        rename World => wq
        clear B10
        cases ag with
        | true =>
          have HG := hid hg
          clear hg
          go_wp2_with fail
          go_loopw [13, 14, 15, 59] (fun va2 _ _ vi wr => ∃ (r : Nat) (ag : Bool) (g2 : Nat → Bool), vi = .int .i64 r ∧ va2 = .bool ag ∧ r ≤ n ∧ Hid (Br n wr ib g2 ∧ Pas Sf n l (frB F n) f r ag g2 ∧ Tch [ib] wt wr)) (fun _ _ _ vi _ => n - (intOf vi).toNat)
          case atStart => exact ⟨0, false, f, rfl, rfl, Nat.zero_le _, HI.out.1, pas_0 HI.out.2.1, HI.out.2.2.2⟩
          case round =>
            obtain ⟨r, ag, g2, rfl, rfl, hr, HJ⟩ := hrel
            rename World => wr1
            clear HI
            by_cases hrn : r < n
            · have hj := HJ.out
              have cr := hj.1.cell hrn
              have cs := cell_of_row _ _ 0 _ _ _ (HST.out _ hj.2.2).1
              simp only [List.getElem?_toArray, List.getElem?_cons_zero] at cs
              have HH1 := hid (HHS.out wr1 r hj.2.2)
              obtain ⟨gr, hgr⟩ : ∃ gr, g2 r = gr := ⟨_, rfl⟩
              rw [hgr] at cr
              have HGR := hid hgr
              clear hj hgr
              /- the inner loop, from a world that is as wr1 but for what is new -/
              cases gr with
              | true =>
                have BI := hid HJ.out.1
                have PI : Hid (Pav Sf n l (frB F n) f r 0 ag g2) := HJ.out.2.1.into (.inl HGR.out)
                have TI := hid HJ.out.2.2
                clear HJ HH1 HGR cs
                go_wp2_with fail
                go_loopw [13, 15, 75] (fun va2 _ vi wr => ∃ (v : Nat) (ag : Bool) (g2 : Nat → Bool), vi = .int .i64 v ∧ va2 = .bool ag ∧ v ≤ n ∧ Hid (Br n wr ib g2 ∧ Pav Sf n l (frB F n) f r v ag g2 ∧ Tch [ib] wt wr)) (fun _ _ vi _ => n - (intOf vi).toNat)
                case atStart => exact ⟨0, ag, g2, rfl, rfl, Nat.zero_le _, BI.out, PI.out, TI.out⟩
                case round =>
                  obtain ⟨v, ag, g2, rfl, rfl, hv, HK⟩ := hrel
                  rename World => wv
                  clear BI PI TI
                  by_cases hvn : v < n
                  · obtain ⟨q, hq⟩ := HCO.out r v hrn hvn
                    obtain ⟨k1, k2⟩ := hq wv HK.out.2.2
                    have k3 := HK.out.1.cell hvn
                    have k4 := HK.out.1.fro v
                    clear hq
                    cases ht : frB F n r v with
                    | false =>
                      rw [ht] at k2
                      have NX : Hid (Pav Sf n l (frB F n) f r (v + 1) ag g2) := HK.out.2.1.stay (fun h => by rw [ht] at h; cases h)
                      have BB := hid HK.out.1
                      have TT := hid HK.out.2.2
                      clear HK ht k3 k4
                      go_wp2_with fail
                      go_roundw
                      case rel => exact ⟨v + 1, ag, g2, by go_num, rfl, by omega, BB.out, NX.out, TT.out⟩
                      case measure => simp [intOf]; omega
                    | true =>
                      rw [ht] at k2
                      obtain ⟨gv, hgv⟩ : ∃ gv, g2 v = gv := ⟨_, rfl⟩
                      rw [hgv] at k3
                      cases gv with
                      | true =>
                        have NX : Hid (Pav Sf n l (frB F n) f r (v + 1) ag g2) := HK.out.2.1.stay (fun _ => hgv)
                        have BB := hid HK.out.1
                        have TT := hid HK.out.2.2
                        clear HK ht hgv k4
                        go_wp2_with fail
                        go_roundw
                        case rel => exact ⟨v + 1, ag, g2, by go_num, rfl, by omega, BB.out, NX.out, TT.out⟩
                        case measure => simp [intOf]; omega
                      | false =>
                        have NX : Hid (Pav Sf n l (frB F n) f r (v + 1) true (updN g2 v true)) := HK.out.2.1.put EQ.out hrn hvn ht hgv
                        obtain ⟨b1, t1⟩ := HK.out.1.set hvn true
                        have BB := hid b1
                        have TT := hid (HK.out.2.2.trans t1)
                        clear HK ht hgv b1 t1
                        go_wp2_with fail
                        go_roundw
                        case rel => exact ⟨v + 1, true, updN g2 v true, by go_num, rfl, by omega, BB.out, NX.out, TT.out⟩
                        case measure => simp [intOf]; omega
                  · have hnv : ¬ ((v : Int) < (n : Int)) := by omega
                    have ev : v = n := by omega
                    have NX : Hid (Pas Sf n l (frB F n) f (r + 1) ag g2) := by
                      have h := HK.out.2.1
                      rw [ev] at h
                      exact h.out
                    have BB := hid HK.out.1
                    have TT := hid HK.out.2.2
                    clear HK ev
                    go_wp2_with fail
                    go_roundw
                    case rel => exact ⟨r + 1, ag, g2, by go_num, rfl, by omega, BB.out, NX.out, TT.out⟩
                    case measure => simp [intOf]; omega
              | false =>
                obtain ⟨hs, hhs⟩ : ∃ hs, hasI r l = hs := ⟨_, rfl⟩
                rw [hhs] at HH1
                have HHS2 := hid hhs
                clear hhs
                cases hs with
                | true =>
                  have PI : Hid (Pav Sf n l (frB F n) f r 0 ag g2) := HJ.out.2.1.into (.inr ((has_iffI _ _).1 HHS2.out))
                  have tA : Tch [] wr1 (wr1.alloc (.cells #[.slice va l.length vc] 52)) := (Tch.refl [] wr1).alloc _
                  have BI := hid (HJ.out.1.kept tA (by simp))
                  have TI := hid (HJ.out.2.2.trans (tA.mono (by simp)))
                  clear HJ HGR tA
                  go_upto_region 22 with (go_at_call 21; refine HH1.out.mono ?_; rintro e y1 ⟨rfl, rfl⟩)
                  clear cr cs HH1
                  generalize wr1.alloc (.cells #[.slice va l.length vc] 52) = wr1 at *
                  go_wp2_with fail
                  go_loopw [13, 15, 75] (fun va2 _ vi wr => ∃ (v : Nat) (ag : Bool) (g2 : Nat → Bool), vi = .int .i64 v ∧ va2 = .bool ag ∧ v ≤ n ∧ Hid (Br n wr ib g2 ∧ Pav Sf n l (frB F n) f r v ag g2 ∧ Tch [ib] wt wr)) (fun _ _ vi _ => n - (intOf vi).toNat)
                  case atStart => exact ⟨0, ag, g2, rfl, rfl, Nat.zero_le _, BI.out, PI.out, TI.out⟩
                  case round =>
                    obtain ⟨v, ag, g2, rfl, rfl, hv, HK⟩ := hrel
                    rename World => wv
                    clear BI PI TI
                    by_cases hvn : v < n
                    · obtain ⟨q, hq⟩ := HCO.out r v hrn hvn
                      obtain ⟨k1, k2⟩ := hq wv HK.out.2.2
                      have k3 := HK.out.1.cell hvn
                      have k4 := HK.out.1.fro v
                      clear hq
                      cases ht : frB F n r v with
                      | false =>
                        rw [ht] at k2
                        have NX : Hid (Pav Sf n l (frB F n) f r (v + 1) ag g2) := HK.out.2.1.stay (fun h => by rw [ht] at h; cases h)
                        have BB := hid HK.out.1
                        have TT := hid HK.out.2.2
                        clear HK ht k3 k4
                        go_wp2_with fail
                        go_roundw
                        case rel => exact ⟨v + 1, ag, g2, by go_num, rfl, by omega, BB.out, NX.out, TT.out⟩
                        case measure => simp [intOf]; omega
                      | true =>
                        rw [ht] at k2
                        obtain ⟨gv, hgv⟩ : ∃ gv, g2 v = gv := ⟨_, rfl⟩
                        rw [hgv] at k3
                        cases gv with
                        | true =>
                          have NX : Hid (Pav Sf n l (frB F n) f r (v + 1) ag g2) := HK.out.2.1.stay (fun _ => hgv)
                          have BB := hid HK.out.1
                          have TT := hid HK.out.2.2
                          clear HK ht hgv k4
                          go_wp2_with fail
                          go_roundw
                          case rel => exact ⟨v + 1, ag, g2, by go_num, rfl, by omega, BB.out, NX.out, TT.out⟩
                          case measure => simp [intOf]; omega
                        | false =>
                          have NX : Hid (Pav Sf n l (frB F n) f r (v + 1) true (updN g2 v true)) := HK.out.2.1.put EQ.out hrn hvn ht hgv
                          obtain ⟨b1, t1⟩ := HK.out.1.set hvn true
                          have BB := hid b1
                          have TT := hid (HK.out.2.2.trans t1)
                          clear HK ht hgv b1 t1
                          go_wp2_with fail
                          go_roundw
                          case rel => exact ⟨v + 1, true, updN g2 v true, by go_num, rfl, by omega, BB.out, NX.out, TT.out⟩
                          case measure => simp [intOf]; omega
                    · have hnv : ¬ ((v : Int) < (n : Int)) := by omega
                      have ev : v = n := by omega
                      have NX : Hid (Pas Sf n l (frB F n) f (r + 1) ag g2) := by
                        have h := HK.out.2.1
                        rw [ev] at h
                        exact h.out
                      have BB := hid HK.out.1
                      have TT := hid HK.out.2.2
                      clear HK ev
                      go_wp2_with fail
                      go_roundw
                      case rel => exact ⟨r + 1, ag, g2, by go_num, rfl, by omega, BB.out, NX.out, TT.out⟩
                      case measure => simp [intOf]; omega
                | false =>
                  have tA : Tch [] wr1 (wr1.alloc (.cells #[.slice va l.length vc] 52)) := (Tch.refl [] wr1).alloc _
                  have NX : Hid (Br n (wr1.alloc (.cells #[.slice va l.length vc] 52)) ib g2 ∧ Pas Sf n l (frB F n) f (r + 1) ag g2 ∧ Tch [ib] wt (wr1.alloc (.cells #[.slice va l.length vc] 52))) := ⟨HJ.out.1.kept tA (by simp), HJ.out.2.1.skip HGR.out (fun hm => by have h1 := HHS2.out; rw [(has_iffI _ _).2 hm] at h1; cases h1), HJ.out.2.2.trans (tA.mono (by simp))⟩
                  clear HJ HGR tA
                  go_wp2_with (go_at_call 21; refine HH1.out.mono ?_; rintro e y1 ⟨rfl, rfl⟩)
                  go_roundw
                  case rel => exact ⟨r + 1, ag, g2, by go_num, rfl, by omega, NX.out⟩
                  case measure => simp [intOf]; omega
            · have hnr : ¬ ((r : Int) < (n : Int)) := by omega
              have er : r = n := by omega
              have HP : Hid (Pas Sf n l (frB F n) f n ag g2) := by
                have h := HJ.out.2.1
                rw [er] at h
                exact h
              have BJ := hid HJ.out.1
              have TJ := hid HJ.out.2.2
              clear HJ er
              go_wp2_with fail
              go_roundg (cF g2 n + (if ag = true then 1 else 0))
              case measure =>
                rw [HG.out]
                cases ag with
                | false => have h1 := (HP.out.no rfl).1; subst h1; simp
                | true => have := HP.out.yes rfl; simp; omega
              case rel => exact ⟨ag, g2, rfl, rfl, BJ.out, HP.out.s, fun e => (HP.out.no e).2, TJ.out⟩
        | false =>
          have CL : Hid (ClsU n l (frB F n) f n) := HI.out.2.2.1 rfl
          have BF := hid HI.out.1
          have SF := hid HI.out.2.1
          have TQ := hid HI.out.2.2.2
          clear HI hg
          have TQ7 : Hid (Tch [] w7 wq) := T7T.out.trans2 TQ.out (fun j hj => .inr (by simp at hj; subst hj; have := LIB2.out; have := HSX.out; omega))
          have FRQ := hid (FR7.out.tch TQ7.out)
          have SQ := hid (HST.out _ TQ.out)
          have cs := cell_of_row _ _ 0 _ _ _ SQ.out.1
          simp only [List.getElem?_toArray, List.getElem?_cons_zero] at cs
          have WFL : Hid (∀ y ∈ l, wfi y) := fun y hy => by have := HMEM.out y hy; exact wfi_of (by omega) (by omega)
          have HFA := hid (fall_any (n := n) (fv := .slice (some ⟨fb, 0, none⟩) n n) (S := Sf) ⟨⟨_, _, rfl⟩, fun _ => ⟨fb, lo2, vS, rfl, FRQ.out⟩⟩ FRQ.out.rg (by omega) SQ.out.2.1 RST.out WFL.out (by omega))
          have EF : Hid (∀ v : Nat, v < n → (f v = true ↔ AllR Sf n l v)) := fun v hv => snd_cls EQ.out FRQ.out.rg SF.out CL.out v hv
          clear SF CL
          go_upto_region 30 with (go_at_call 23; refine HFA.out.mono ?_; rintro e w11 ⟨vv, rl, rfl, r1, r2, r3, r4, r5, r6⟩; obtain ⟨ra, rc, hrv⟩ := seg_slice r4; rw [vals_lenI] at hrv; subst hrv; have R1 := hid r1; have R2 := hid r2; have R3 := hid r3; have R4 := hid r4; have T11 := hid r6; clear r1 r2 r3 r4 r5 r6)
          have o12 := heap_alloc_new w11 (.cells #[.slice ra rl.length rc] 52)
          have t12 : Tch [] w11 (w11.alloc (.cells #[.slice ra rl.length rc] 52)) := (Tch.refl [] w11).alloc _
          generalize w11.alloc (.cells #[.slice ra rl.length rc] 52) = w12 at *
          have O12 := hid o12
          have TQ12 : Hid (Tch [] wq w12) := T11.out.trans t12
          have R12 := hid (R4.out.kept t12 (by simp))
          have B12 := hid (BF.out.kept TQ12.out (by simp))
          have S12 : Hid (SetAtI w12 sx (.slice va l.length vc) l) := ⟨TQ12.out.obj SQ.out.1 (by simp), SQ.out.2.1.kept TQ12.out (by simp), SQ.out.2.2⟩
          have HFV : Hid (∀ v : Nat, v < n → f v = hasI v rl) := fun v hv => by
            rw [Bool.eq_iff_iff, EF.out v hv, has_iffI, R2.out]
          have hrl := R3.out
          have TW12 : Hid (Tch [] w w12) := (TW7.out.trans TQ7.out).trans TQ12.out
          clear o12 t12 cs HFA R4 T11 BF SQ
          generalize w11.heap.size = gx at *
          go_wp2_with fail
          go_loopw [17, 102] (fun _ vi wr => ∃ v : Nat, vi = .int .i64 v ∧ v ≤ n ∧ Hid (Tch [] w12 wr)) (fun _ vi _ => n - (intOf vi).toNat)
          case atStart => exact ⟨0, rfl, Nat.zero_le _, Tch.refl _ _⟩
          case round =>
            obtain ⟨v, rfl, hv, HT⟩ := hrel
            rename World => wi
            by_cases hvn : v < n
            · have cg := cell_of_row _ _ 0 _ _ _ (HT.out.obj O12.out (by simp))
              simp only [List.getElem?_toArray, List.getElem?_cons_zero] at cg
              have ci := HT.out.val0 (B12.out.cell hvn)
              rw [HFV.out v hvn] at ci
              have HHA : Hid (∀ W, Tch [] wi W → Calls Try.prog 21 #[.agg #[.slice ra rl.length rc], .int .i64 v] W fun e w' => e = .returned (.bool (hasI v rl)) ∧ w' = W.alloc (.cells #[.slice ra rl.length rc] 52)) := fun W t => hasOf_I _ rl v W (R12.out.kept (HT.out.trans t) (by simp)) R1.out (by omega)
              generalize hasI v rl = hv2 at *
              go_upto_region 33 with fail
              have KS2 : Hid (∀ w', Tch [] wi w' → Tch [] wi w' ∧ w'.cell? ⟨gx, 0, none⟩ = some (.slice ra rl.length rc) ∧ w'.cell? ⟨ib, v, none⟩ = some (.bool hv2)) := fun w' t => ⟨t, t.val0 cg, t.val0 ci⟩
              refine wp_region_noPanic ?_
              refine wp_region_held_drew (S := fun w' => Tch [] wi w' ∧ w'.cell? ⟨gx, 0, none⟩ = some (.slice ra rl.length rc) ∧ w'.cell? ⟨ib, v, none⟩ = some (.bool hv2)) hmo (KS2.out _ (Tch.refl _ _).drew) (fun hHeld => ?_)
              generalize wi.drew = y0 at *
              refine wpAnyH_take (i := 0) (v := ?_) rfl (by kernel_rfl) (by kernel_rfl) (by kernel_rfl) (fun _ _ _ h => h) (Or.inl ⟨by rfl, ?_⟩) (by assumption) ?_
              rotate_left
              (intro w hSw; (try dsimp only at hSw); go_simp; try (with_reducible rfl))
              try simp only [Act.put, List.setIfInBounds_toArray, List.set_cons_zero, List.set_cons_succ]
              refine wpAnyH_take (i := 1) (v := ?_) rfl (by kernel_rfl) (by kernel_rfl) (by kernel_rfl) (fun _ _ _ h => h) (Or.inl ⟨by rfl, ?_⟩) (by assumption) ?_
              rotate_left
              (intro w hSw; (try dsimp only at hSw); go_simp; try (with_reducible rfl))
              try simp only [Act.put, List.setIfInBounds_toArray, List.set_cons_zero, List.set_cons_succ]
              refine wpAnyH_take (i := 3) (v := ?_) rfl (by kernel_rfl) (by kernel_rfl) (by kernel_rfl) (fun _ _ _ h => h) (Or.inl ⟨by rfl, ?_⟩) (by assumption) ?_
              rotate_left
              (intro w hSw; (try dsimp only at hSw); go_simp; try (with_reducible rfl))
              try simp only [Act.put, List.setIfInBounds_toArray, List.set_cons_zero, List.set_cons_succ]
              refine wpAnyH_take (i := 4) (v := ?_) rfl (by kernel_rfl) (by kernel_rfl) (by kernel_rfl) (fun _ _ _ h => h) (Or.inl ⟨by rfl, ?_⟩) (by assumption) ?_
              rotate_left
              (intro w hSw; (try dsimp only at hSw); go_simp; try (with_reducible rfl))
              try simp only [Act.put, List.setIfInBounds_toArray, List.set_cons_zero, List.set_cons_succ]
              refine wpAnyH_take (i := 5) (v := ?_) rfl (by kernel_rfl) (by kernel_rfl) (by kernel_rfl) (fun _ _ _ h => h) (Or.inl ⟨by rfl, ?_⟩) (by assumption) ?_
              rotate_left
              (intro w hSw; (try dsimp only at hSw); go_simp; try (with_reducible rfl))
              try simp only [Act.put, List.setIfInBounds_toArray, List.set_cons_zero, List.set_cons_succ]
              refine wpAnyH_take (i := 6) (v := ?_) rfl (by kernel_rfl) (by kernel_rfl) (by kernel_rfl) (fun _ _ _ h => h) (Or.inl ⟨by rfl, ?_⟩) (by assumption) ?_
              rotate_left
              (intro w hSw; (try dsimp only at hSw); go_simp; try (with_reducible rfl))
              try simp only [Act.put, List.setIfInBounds_toArray, List.set_cons_zero, List.set_cons_succ]
              refine wpAnyH_ready (rs := [2]) (by kernel_rfl) (by simp) (AllReadyH.cons rfl (fun Kq hK => ?_) AllReadyH.nil)
              go_simp
              go_at_call 21
              refine (HHA.out _ hHeld.1).mono ?_
              rintro e y1 ⟨rfl, rfl⟩
              refine hK.out _ _ (KS2.out _ (hHeld.1.alloc _)) (fun hH2 => ?_)
              clear hHeld hK Kq
              have hHeld := hH2
              clear hH2
              try simp only [Act.put, List.setIfInBounds_toArray, List.set_cons_zero, List.set_cons_succ]
              have TY := hid hHeld.1
              generalize y0.alloc (.cells #[.slice ra rl.length rc] 52) = y1 at *
              refine wpAnyH_take (i := 7) (v := ?_) rfl (by kernel_rfl) (by kernel_rfl) (by kernel_rfl) (fun _ _ _ h => h) (Or.inl ⟨by rfl, ?_⟩) (by assumption) ?_
              rotate_left
              (intro w hSw; (try dsimp only at hSw); go_simp; try (with_reducible rfl))
              try simp only [Act.put, List.setIfInBounds_toArray, List.set_cons_zero, List.set_cons_succ]
              refine wpAnyH_done (by kernel_rfl) (NoPanic.normal ?_) _
              have TN : Hid (Tch [] w12 y1) := HT.out.trans TY.out
              clear KS2 TY hHeld cg ci HHA
              cases hv2
              · go_wp2_with fail
                go_roundw
                case rel => exact ⟨v + 1, by go_num, by omega, TN.out⟩
                case measure => simp [intOf]; omega
              · go_wp2_with fail
                go_roundw
                case rel => exact ⟨v + 1, by go_num, by omega, TN.out⟩
                case measure => simp [intOf]; omega
            · have hnv : ¬ ((v : Int) < (n : Int)) := by omega
              have cs := cell_of_row _ _ 0 _ _ _ (HT.out.obj S12.out.1 (by simp))
              simp only [List.getElem?_toArray, List.getElem?_cons_zero] at cs
              have SGI : Hid (∀ W, Tch [] wi W → Seg W 3 (.slice va l.length vc) (valsI l)) := fun W t => S12.out.2.1.kept (HT.out.trans t) (by simp)
              go_upto_region 36 with fail
              have KS3 : Hid (∀ w', Tch [] wi w' → Tch [] wi w' ∧ w'.cell? ⟨sx, 0, none⟩ = some (.slice va l.length vc)) := fun w' t => ⟨t, t.val0 cs⟩
              refine wp_region_noPanic ?_
              refine wp_region_held_drew (S := fun w' => Tch [] wi w' ∧ w'.cell? ⟨sx, 0, none⟩ = some (.slice va l.length vc)) hmo (KS3.out _ (Tch.refl _ _).drew) (fun hHeld => ?_)
              generalize wi.drew = y0 at *
              refine wpAnyH_take (i := 0) (v := ?_) rfl (by kernel_rfl) (by kernel_rfl) (by kernel_rfl) (fun _ _ _ h => h) (Or.inl ⟨by rfl, ?_⟩) (by assumption) ?_
              rotate_left
              (intro w hSw; (try dsimp only at hSw); go_simp; try (with_reducible rfl))
              try simp only [Act.put, List.setIfInBounds_toArray, List.set_cons_zero, List.set_cons_succ]
              refine wpAnyH_take (i := 1) (v := ?_) rfl (by kernel_rfl) (by kernel_rfl) (by kernel_rfl) (fun _ _ _ h => h) (Or.inl ⟨by rfl, ?_⟩) (by assumption) ?_
              rotate_left
              (intro w hSw; (try dsimp only at hSw); go_simp; try (with_reducible rfl))
              try simp only [Act.put, List.setIfInBounds_toArray, List.set_cons_zero, List.set_cons_succ]
              refine wpAnyH_ready (rs := [2]) (by kernel_rfl) (by simp) (AllReadyH.cons rfl (fun Kq hK => ?_) AllReadyH.nil)
              go_simp
              go_at_call 25
              refine (clone_I _ l _ (SGI.out _ hHeld.1) (by omega)).mono ?_
              rintro e y1 ⟨v1, rfl, s1, b1, t1⟩
              obtain ⟨ca1, cc1, hv1⟩ := seg_slice s1
              subst hv1
              refine hK.out _ _ (KS3.out _ (hHeld.1.trans (Tch.of_below t1))) (fun hH2 => ?_)
              clear hHeld hK Kq
              have hHeld := hH2
              clear hH2
              try simp only [Act.put, List.setIfInBounds_toArray, List.set_cons_zero, List.set_cons_succ]
              have SC1 := hid s1
              clear s1 b1 t1
              refine wpAnyH_ready (rs := [3]) (by kernel_rfl) (by simp) (AllReadyH.cons rfl (fun Kq hK => ?_) AllReadyH.nil)
              go_simp
              go_at_call 24
              refine (same_I _ _ l l _ (SGI.out _ hHeld.1) SC1.out (by omega) (by omega)).mono ?_
              rintro e y2 ⟨he, t2⟩
              rw [show sameI l l = true by simp [sameI]] at he
              subst he
              refine hK.out _ _ (KS3.out _ (hHeld.1.trans (Tch.of_below t2))) (fun hH2 => ?_)
              clear hHeld hK Kq
              have hHeld := hH2
              clear hH2
              try simp only [Act.put, List.setIfInBounds_toArray, List.set_cons_zero, List.set_cons_succ]
              clear t2 SC1
              refine wpAnyH_take (i := 4) (v := ?_) rfl (by kernel_rfl) (by kernel_rfl) (by kernel_rfl) (fun _ _ _ h => h) (Or.inl ⟨by rfl, ?_⟩) (by assumption) ?_
              rotate_left
              (intro w hSw; (try dsimp only at hSw); go_simp; try (with_reducible rfl))
              try simp only [Act.put, List.setIfInBounds_toArray, List.set_cons_zero, List.set_cons_succ]
              refine wpAnyH_take (i := 5) (v := ?_) rfl (by kernel_rfl) (by kernel_rfl) (by kernel_rfl) (fun _ _ _ h => h) (Or.inl ⟨by rfl, ?_⟩) (by assumption) ?_
              rotate_left
              (intro w hSw; (try dsimp only at hSw); go_simp; try (with_reducible rfl))
              try simp only [Act.put, List.setIfInBounds_toArray, List.set_cons_zero, List.set_cons_succ]
              refine wpAnyH_ready (rs := [6]) (by kernel_rfl) (by simp) (AllReadyH.cons rfl (fun Kq hK => ?_) AllReadyH.nil)
              go_simp
              go_at_call 23
              refine (fall_any (n := 0) (fv := .slice none 0 0) (S := fun _ => []) ⟨⟨_, _, rfl⟩, fun h => absurd h (by omega)⟩ (by simp) (by omega) (SGI.out _ hHeld.1) RST.out WFL.out (by omega)).mono ?_
              rintro e y3 ⟨v3, l3, rfl, _, _, l3n, s3, _, t3⟩
              obtain rfl : l3 = [] := List.eq_nil_of_length_eq_zero (by omega)
              obtain ⟨ca3, cc3, hv3⟩ := seg_slice s3
              subst hv3
              refine hK.out _ _ (KS3.out _ (hHeld.1.trans t3)) (fun hH2 => ?_)
              clear hHeld hK Kq
              have hHeld := hH2
              clear hH2
              try simp only [Act.put, List.setIfInBounds_toArray, List.set_cons_zero, List.set_cons_succ]
              have SC3 := hid s3
              clear s3 t3 l3n
              refine wpAnyH_ready (rs := [7]) (by kernel_rfl) (by simp) (AllReadyH.cons rfl (fun Kq hK => ?_) AllReadyH.nil)
              go_simp
              go_at_call 26
              refine (len_I _ [] _ SC3.out).mono ?_
              rintro e y4 ⟨rfl, rfl⟩
              refine hK.out _ _ (KS3.out _ (hHeld.1.alloc _)) (fun hH2 => ?_)
              clear hHeld hK Kq
              have hHeld := hH2
              clear hH2
              try simp only [Act.put, List.setIfInBounds_toArray, List.set_cons_zero, List.set_cons_succ]
              have TL := hid hHeld.1
              clear SC3
              refine wpAnyH_take (i := 8) (v := ?_) rfl (by kernel_rfl) (by kernel_rfl) (by kernel_rfl) (fun _ _ _ h => h) (Or.inl ⟨by rfl, ?_⟩) (by assumption) ?_
              rotate_left
              (intro w hSw; (try dsimp only at hSw); go_simp; try (with_reducible rfl))
              try simp only [Act.put, List.setIfInBounds_toArray, List.set_cons_zero, List.set_cons_succ]
              refine wpAnyH_take (i := 9) (v := ?_) rfl (by kernel_rfl) (by kernel_rfl) (by kernel_rfl) (fun _ _ _ h => h) (Or.inl ⟨by rfl, ?_⟩) (by assumption) ?_
              rotate_left
              (intro w hSw; (try dsimp only at hSw); go_simp; try (with_reducible rfl))
              try simp only [Act.put, List.setIfInBounds_toArray, List.set_cons_zero, List.set_cons_succ]
              refine wpAnyH_take (i := 10) (v := ?_) rfl (by kernel_rfl) (by kernel_rfl) (by kernel_rfl) (fun _ _ _ h => h) (Or.inl ⟨by rfl, ?_⟩) (by assumption) ?_
              rotate_left
              (intro w hSw; (try dsimp only at hSw); go_simp; try (with_reducible rfl))
              try simp only [Act.put, List.setIfInBounds_toArray, List.set_cons_zero, List.set_cons_succ]
              refine wpAnyH_done (by kernel_rfl) (NoPanic.normal ?_) _
              go_wp2_with fail
              go_ret
              exact ⟨rfl, (TW12.out.trans HT.out).trans TL.out⟩
set_option maxRecDepth 100000 in
set_option maxHeartbeats 8000000 in
theorem frontAll_heavy (N : Int) (ea : Option Addr) (ec m : Nat) (ua2 : Option Addr) (m2 uc2 : Nat) (w : World) (hL : 40 < m ∨ (m ≤ 40 ∧ 12 < m2)) :
    Calls Try.prog 5 #[.agg #[.int .u8 N, .slice ea m ec], .slice ua2 m2 uc2] w fun e w' => e = .returned (.bool true) ∧ Tch [] w w' := by
  go_enter Try.func5, Try.ntmps5
  go_upto_region 1 with fail
  have T0 := hid ((Tch.refl [] w).alloc (.cells #[.int .u8 N, .slice ea m ec] 24))
  have O0 := hid (heap_alloc_new w (.cells #[.int .u8 N, .slice ea m ec] 24))
  generalize w.alloc (.cells #[.int .u8 N, .slice ea m ec] 24) = w0 at *
  have HA := hid (awake_f w0)
  go_upto_region 3 with (go_at_call 18; refine HA.out.mono ?_; rintro e w1 ⟨rfl, t1⟩; have T1 := hid (T0.out.trans t1); have O1 := hid (t1.obj O0.out (by simp)); clear t1)
  have y0 := cell_of_row _ _ 0 _ _ _ O1.out
  have y1 := cell_of_row _ _ 1 _ _ _ O1.out
  simp only [List.getElem?_toArray, List.getElem?_cons_zero, List.getElem?_cons_succ] at y0 y1
  have HLi := hid (lightG_any N ea m ec w1)
  clear HA T0 O0
  by_cases h40 : 40 < m
  · rw [show decide (((m : Nat) : Int) ≤ 40) = false by simp; omega] at HLi
    clear hL h40
    go_wp2_with (go_at_call 9; refine HLi.out.mono ?_; rintro e w2 ⟨rfl, g2⟩; have T2 := hid (T1.out.trans g2.tch); clear g2)
    go_ret
    exact ⟨rfl, T2.out⟩
  · rw [show decide (((m : Nat) : Int) ≤ 40) = true by simp; omega] at HLi
    have h12 : ((12 : Int) < (m2 : Int)) := by omega
    clear hL h40
    go_wp2_with (go_at_call 9; refine HLi.out.mono ?_; rintro e w2 ⟨rfl, g2⟩; have T2 := hid (T1.out.trans g2.tch); clear g2)
    go_ret
    exact ⟨rfl, T2.out⟩
theorem frontAll_any (N : Int) (ev : Value) (es : List (Int × Int)) (uv : Value) (us : List Int) (w : World) (hE : EdgOk w N ev es) (hU : Cel w 1 uv us.length (us.flatMap fun y => [.int .u8 y])) (hUr : ∀ y ∈ us, 0 ≤ y ∧ y ≤ 255) :
    Calls Try.prog 5 #[.agg #[.int .u8 N, ev], uv] w fun e w' => e = .returned (.bool true) ∧ Tch [] w w' := by
  obtain ⟨ea, ec, rfl, _⟩ := hE.c.shape
  obtain ⟨ua, uc, rfl, _⟩ := hU.shape
  by_cases h : es.length ≤ 40
  · by_cases h2 : us.length ≤ 12
    · exact frontAll_light N ea ec es ua uc us w hE h hU hUr h2
    · exact frontAll_heavy N ea ec es.length ua us.length uc w (.inr ⟨h, by omega⟩)
  · exact frontAll_heavy N ea ec es.length ua us.length uc w (.inl (by omega))
end Go.Proofs.Ytpmdeilnkholgaa

