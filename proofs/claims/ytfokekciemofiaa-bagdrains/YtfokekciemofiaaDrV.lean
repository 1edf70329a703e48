/- BagDrains: what its two loops keep between two rounds. -/
import Derived.Test.YtfokekciemofiaaDrD
import Derived.Test.YtfokekciemofiaaAwake
import Derived.Deep.RegionWith
import Derived.Maps.OwnIn
import Derived.Shelf.RegionOpen
set_option linter.unusedSimpArgs false
set_option linter.unusedVariables false
namespace Go.Proofs.Ytfokekciemofiaa
open Go.RowKit
attribute [local go_sem] Oper.semAt_some

/-- The result lies in a cell of its own. -/
theorem results_one {fn : Func} {p : Tmp} (h : fn.results = #[.cell p 4]) (tmps : Array Value) (w : World) (g : Nat) (hp : tmps.getD p undef = .pointer (some ⟨g, 0, none⟩)) {v : Value} (hc : w.cell? ⟨g, 0, none⟩ = some v) : (results fn tmps).run Try.prog w = .ok v w := by
  have hp' : tmps[p]?.getD undef = .pointer (some ⟨g, 0, none⟩) := by simpa using hp
  simp [results, h, hp', asAddr, go_sem, hc]
/-- Two blocks laid; what comes behind them lies beyond. -/
theorem two_laid {w w1 : World} {o1 o2 : Obj} (h : Below ((w.alloc o1).alloc o2).heap.size ((w.alloc o1).alloc o2) w1) : Below w.heap.size w w1 ∧ w1.heap[w.heap.size]? = some o1 ∧ w1.heap[w.heap.size + 1]? = some o2 ∧ w.heap.size + 2 ≤ w1.heap.size := by
  have z : ((w.alloc o1).alloc o2).heap.size = w.heap.size + 2 := by simp
  rw [z] at h
  refine ⟨(((Below.refl _ w).alloc (Nat.le_refl _) _).alloc (by simp) _).trans (h.mono (by omega)), (h.block _ (by omega)).trans ((Below.heap_alloc _ _ _ (by simp)).trans (heap_alloc_new w o1)), (h.block _ (by omega)).trans ?_, by have := h.size; omega⟩
  have := heap_alloc_new (w.alloc o1) o2
  simpa using this
set_option maxRecDepth 100000 in
set_option maxHeartbeats 1000000 in
theorem drains_big (ao : Option Addr) (n cap : Nat) (nx : Array Value) (st : Int) (w : World) (hn : 40 < n) (hm : n ≤ 9223372036854775807) :
    Calls Try.prog 6 #[.slice ao n cap, .agg nx, .int .u8 st] w fun e w' => e = .returned (.bool true) ∧ Below w.heap.size w w' := by
  have ha := awake ((w.alloc (.cells nx 55)).alloc (.cells #[.bool false] 4))
  go_enter Try.func6, Try.ntmps6
  go_wp2_with (go_at_call 9; refine ha.mono ?_; rintro e w1 ⟨rfl, hb⟩; obtain ⟨b1, o1, o2, z1⟩ := two_laid hb; have HB := hid b1; have O1 := hid o1; have c1 := cell_of_row w1 _ 0 _ _ _ o2; have f1 := frozen_of_row w1 _ 0 _ _ o2; have O2 := hid o2; simp only [List.getElem?_toArray, List.getElem?_cons_zero] at c1; clear hb b1 o1 o2)
  have c2 : (w1.setCell ⟨w.heap.size + 1, 0, none⟩ (.bool true)).cell? ⟨w.heap.size + 1, 0, none⟩ = some (.bool true) := World.cell?_setCell_same _ _ _ c1
  refine bodyPost_ret (v := .bool true) (results_one Try.results6 _ _ (w.heap.size + 1) rfl c2) rfl ?_
  exact ⟨rfl, HB.out.setCell (p := ⟨w.heap.size + 1, 0, none⟩) (by simp) _⟩
/-- Between two rounds of the first loop. -/
structure D1 (B nb rb pb qb rwb : Nat) (nx : Array Value) (w : World) (k : Nat) (W : World) (v : Value) (mo : Option Nat) (rv : Value) (l : List Int) : Prop where
  q2 : Q2 B [nb, rb, pb] qb rwb W v mo rv k l l
  nxo : W.heap[nb]? = some (.cells nx 55 (0, 0))
  rso : W.heap[rb]? = some (.cells #[.bool false] 4 (0, 0))
  pqo : W.heap[pb]? = some (.cells #[.slice none 0 0, .map none] 58 (0, 0))
  bel : Below B w W
  lo : ∀ b ∈ [nb, rb, pb], B ≤ b
  rng : ∀ x ∈ l, 0 ≤ x ∧ x < 16
  len : l.length ≤ k
section
variable {B nb rb pb qb rwb : Nat} {nx : Array Value} {w : World} {k : Nat} {W : World} {v : Value} {mo : Option Nat} {rv : Value} {l : List Int}
theorem d1_no (h : D1 B nb rb pb qb rwb nx w k W v mo rv l) (hB : B ≤ w.heap.size) {x : Int} (h0 : 0 ≤ x) (h1 : x < 16) (hin : hasI x l = true) :
    Calls Try.prog 29 #[.pointer (some ⟨qb, 0, none⟩), .int .i64 x] W fun e W2 => e = .returned (.bool false) ∧ D1 B nb rb pb qb rwb nx w (k + 1) W2 v mo rv l := by
  refine (put_no_I qb v mo k l x W h.q2.q (WalkArith.wf_i64 (by omega)) ((has_iffI _ _).1 hin)).mono ?_
  rintro e W2 ⟨rfl, rfl⟩
  have t : Tch [] W (W.alloc (.cells #[] 98)) := (Tch.refl _ W).alloc _
  exact ⟨rfl, (h.q2.else t (by simp)).up (by omega), t.obj h.nxo (by simp), t.obj h.rso (by simp), t.obj h.pqo (by simp), h.bel.trans (t.below (bel_sz h.bel hB) (by simp)), h.lo, h.rng, by have := h.len; omega⟩
/-- Put, and then append. -/
theorem d1_yes (h : D1 B nb rb pb qb rwb nx w k W v mo rv l) (hB : B ≤ w.heap.size) (hk : k ≤ 100) {x : Int} (h0 : 0 ≤ x) (h1 : x < 16) (hin : hasI x l = false) :
    Calls Try.prog 29 #[.pointer (some ⟨qb, 0, none⟩), .int .i64 x] W fun e W2 => e = .returned (.bool true) ∧ Seg W2 3 rv (valsI l) ∧ W2.cell? ⟨rwb, 0, none⟩ = some rv ∧
      ∃ b o cp w' v' mo', (Builtin.append_ #[24, 24] 24 #[rv, .slice (some ⟨W2.heap.size, 0, none⟩) 1 1]).run Try.prog (W2.alloc (.cells #[.int .i64 x] 3)) = .ok (.slice (some ⟨b, o, none⟩) (l.length + 1) cp) w' ∧ w'.cell? ⟨rwb, 0, none⟩ = some rv ∧ w'.frozen? ⟨rwb, 0, none⟩ = false ∧
        D1 B nb rb pb qb rwb nx w (k + 1) (w'.setCell ⟨rwb, 0, none⟩ (.slice (some ⟨b, o, none⟩) (l.length + 1) cp)) v' mo' (.slice (some ⟨b, o, none⟩) (l.length + 1) cp) (l ++ [x]) := by
  have hn : ¬ x ∈ l := fun hm => by rw [(has_iffI _ _).2 hm] at hin; cases hin
  have hl := h.len
  refine (q2_put h.q2 (bel_sz h.bel hB) (WalkArith.wf_i64 (by omega)) hn (by omega) (by unfold maxLen; omega)).mono ?_
  rintro e W2 ⟨rfl, v', mo', q, t, hk'⟩
  have b2 := h.q2.below t (bel_sz h.bel hB)
  obtain ⟨b, o, cp, w', r, c1, c2, q', t'⟩ := q2_app (x := x) q (bel_sz (h.bel.trans b2) hB) (by omega)
  refine ⟨rfl, q.row, q.bx.cell, b, o, cp, w', v', mo', r, c1, c2, ⟨q', q.obj t' (by simp) (h.q2.obj t (by simp) h.nxo), q.obj t' (by simp) (h.q2.obj t (by simp) h.rso), q.obj t' (by simp) (h.q2.obj t (by simp) h.pqo), (h.bel.trans b2).trans (q.below t' (bel_sz (h.bel.trans b2) hB)), h.lo, fun y hy => ?_, by simp; omega⟩⟩
  rcases List.mem_append.1 hy with hy | hy
  · exact h.rng y hy
  · simp at hy; subst hy; exact ⟨h0, h1⟩
end
theorem d1_start {w w1 : World} {nx : Array Value} (hb : Below w.heap.size w w1) (o1 : w1.heap[w.heap.size]? = some (.cells nx 55 (0, 0))) (o2 : w1.heap[w.heap.size + 1]? = some (.cells #[.bool false] 4 (0, 0))) (z1 : w.heap.size + 2 ≤ w1.heap.size) :
    D1 w.heap.size w.heap.size (w.heap.size + 1) (w1.heap.size + 1) w1.heap.size (w1.heap.size + 2) nx w 0 (((w1.alloc (.cells #[.slice none 0 0, .map none] 58)).alloc (.cells #[.slice none 0 0, .map none] 58)).alloc (.cells #[.slice none 0 0] 24)) (.slice none 0 0) none (.slice none 0 0) [] := by
  generalize hA : w1.alloc (.cells #[.slice none 0 0, .map none] 58) = A
  have zA : A.heap.size = w1.heap.size + 1 := by rw [← hA]; simp
  have oA : A.heap[w1.heap.size]? = some (.cells #[.slice none 0 0, .map none] 58 (0, 0)) := by rw [← hA]; exact heap_alloc_new w1 _
  have tA : Tch [] w1 A := by rw [← hA]; exact (Tch.refl _ w1).alloc _
  generalize hC : A.alloc (.cells #[.slice none 0 0, .map none] 58) = C
  have zC : C.heap.size = w1.heap.size + 2 := by rw [← hC]; simp [zA]
  have oC : C.heap[w1.heap.size + 1]? = some (.cells #[.slice none 0 0, .map none] 58 (0, 0)) := by rw [← hC, ← zA]; exact heap_alloc_new A _
  have tC : Tch [] A C := by rw [← hC]; exact (Tch.refl _ A).alloc _
  generalize hD : C.alloc (.cells #[.slice none 0 0] 24) = D
  have zD : D.heap.size = w1.heap.size + 3 := by rw [← hD]; simp [zC]
  have oD : D.heap[w1.heap.size + 2]? = some (.cells #[.slice none 0 0] 24 (0, 0)) := by rw [← hD, ← zC]; exact heap_alloc_new C _
  have tD : Tch [] C D := by rw [← hD]; exact (Tch.refl _ C).alloc _
  have t := (tA.trans tC).trans tD
  refine ⟨⟨⟨(tC.trans tD).obj oA (by simp), Seg.nil _ _, by simp [blks], .inl ⟨rfl, rfl⟩, List.nodup_nil, by simp⟩, oD, Seg.nil _ _, fun b hb => ?_, by omega, by simp [footI, blks], by simp [blks], fun b hb => ?_⟩, t.obj o1 (by simp), t.obj o2 (by simp), tD.obj oC (by simp), hb.trans (t.below (by omega) (by simp)), fun b hb => ?_, by simp, by simp⟩
  · simp [own2, footI, blks] at hb ⊢
    omega
  · simp [own2, footI, blks] at hb
    omega
  · simp at hb
    omega
/-- A mark that a range leaves behind. -/
def coll (D : Nat) : Deferred := { target := .collected D, args := #[] }
theorem leaves_coll {B : Nat} {w : World} {fn : Func} {p : Tmp} (h : fn.results = #[.cell p 4]) (tmps : Array Value) (g : Nat) (hp : tmps.getD p undef = .pointer (some ⟨g, 0, none⟩)) : ∀ (Ds : List Nat) (W : World), Ds.Nodup → (∀ D ∈ Ds, W.heap[D]? = some (.deferred (some []))) → (∀ D ∈ Ds, B ≤ D) → B ≤ w.heap.size → W.heap[g]? = some (.cells #[.bool true] 4 (0, 0)) → Below B w W →
    LeavesInM Fence.wide 5 Try.prog fn tmps (fun e w' => e = .returned (.bool true) ∧ Below B w w') (Ds.map coll) .returning W
  | [], W, _, _, _, _, hg, hb => ⟨_, results_one h tmps W g hp (v := .bool true) (by rw [cell_of_row _ _ 0 _ _ _ hg]; rfl), rfl, hb⟩
  | D :: Ds, W, hn, hd, hB, hw, hg, hb => by
    have h0 := hd D (by simp)
    have n1 := List.nodup_cons.1 hn
    have ne : ¬ D = g := fun e => by subst e; rw [hg] at h0; cases h0
    have o : ∀ k, ¬ k = D → (W.putObj D (.deferred none)).heap[k]? = W.heap[k]? := fun k hk => World.putObj_heap_other (fun e => hk (by first | exact e | exact e.symm))
    refine ⟨by simp, .inl ⟨D, _, rfl, run_takeDeferred h0, ?_⟩⟩
    refine leaves_coll h tmps g hp Ds _ n1.2 (fun E hE => ?_) (fun E hE => hB E (by simp [hE])) hw ?_ (hb.trans ⟨rfl, rfl, rfl, by simp [World.putObj], fun k hk => o k (fun e => by have := hB D (by simp); omega)⟩)
    · rw [o E (fun e => by subst e; exact n1.1 hE)]; exact hd E (by simp [hE])
    · rw [o g (fun e => ne e.symm)]; exact hg
theorem frame103 (ts : Array Value) (h : ts.size = 103) : ts = #[ts.getD 0 undef, ts.getD 1 undef, ts.getD 2 undef, ts.getD 3 undef, ts.getD 4 undef, ts.getD 5 undef, ts.getD 6 undef, ts.getD 7 undef, ts.getD 8 undef, ts.getD 9 undef, ts.getD 10 undef, ts.getD 11 undef, ts.getD 12 undef, ts.getD 13 undef, ts.getD 14 undef, ts.getD 15 undef, ts.getD 16 undef, ts.getD 17 undef, ts.getD 18 undef, ts.getD 19 undef, ts.getD 20 undef, ts.getD 21 undef, ts.getD 22 undef, ts.getD 23 undef, ts.getD 24 undef, ts.getD 25 undef, ts.getD 26 undef, ts.getD 27 undef, ts.getD 28 undef, ts.getD 29 undef, ts.getD 30 undef, ts.getD 31 undef, ts.getD 32 undef, ts.getD 33 undef, ts.getD 34 undef, ts.getD 35 undef, ts.getD 36 undef, ts.getD 37 undef, ts.getD 38 undef, ts.getD 39 undef, ts.getD 40 undef, ts.getD 41 undef, ts.getD 42 undef, ts.getD 43 undef, ts.getD 44 undef, ts.getD 45 undef, ts.getD 46 undef, ts.getD 47 undef, ts.getD 48 undef, ts.getD 49 undef, ts.getD 50 undef, ts.getD 51 undef, ts.getD 52 undef, ts.getD 53 undef, ts.getD 54 undef, ts.getD 55 undef, ts.getD 56 undef, ts.getD 57 undef, ts.getD 58 undef, ts.getD 59 undef, ts.getD 60 undef, ts.getD 61 undef, ts.getD 62 undef, ts.getD 63 undef, ts.getD 64 undef, ts.getD 65 undef, ts.getD 66 undef, ts.getD 67 undef, ts.getD 68 undef, ts.getD 69 undef, ts.getD 70 undef, ts.getD 71 undef, ts.getD 72 undef, ts.getD 73 undef, ts.getD 74 undef, ts.getD 75 undef, ts.getD 76 undef, ts.getD 77 undef, ts.getD 78 undef, ts.getD 79 undef, ts.getD 80 undef, ts.getD 81 undef, ts.getD 82 undef, ts.getD 83 undef, ts.getD 84 undef, ts.getD 85 undef, ts.getD 86 undef, ts.getD 87 undef, ts.getD 88 undef, ts.getD 89 undef, ts.getD 90 undef, ts.getD 91 undef, ts.getD 92 undef, ts.getD 93 undef, ts.getD 94 undef, ts.getD 95 undef, ts.getD 96 undef, ts.getD 97 undef, ts.getD 98 undef, ts.getD 99 undef, ts.getD 100 undef, ts.getD 101 undef, ts.getD 102 undef] := by
  have e : ∀ f : Nat → Value, (List.range 103).map f = [f 0, f 1, f 2, f 3, f 4, f 5, f 6, f 7, f 8, f 9, f 10, f 11, f 12, f 13, f 14, f 15, f 16, f 17, f 18, f 19, f 20, f 21, f 22, f 23, f 24, f 25, f 26, f 27, f 28, f 29, f 30, f 31, f 32, f 33, f 34, f 35, f 36, f 37, f 38, f 39, f 40, f 41, f 42, f 43, f 44, f 45, f 46, f 47, f 48, f 49, f 50, f 51, f 52, f 53, f 54, f 55, f 56, f 57, f 58, f 59, f 60, f 61, f 62, f 63, f 64, f 65, f 66, f 67, f 68, f 69, f 70, f 71, f 72, f 73, f 74, f 75, f 76, f 77, f 78, f 79, f 80, f 81, f 82, f 83, f 84, f 85, f 86, f 87, f 88, f 89, f 90, f 91, f 92, f 93, f 94, f 95, f 96, f 97, f 98, f 99, f 100, f 101, f 102] := fun f => rfl
  apply Array.toList_inj.1
  show ts.toList = [ts.getD 0 undef, ts.getD 1 undef, ts.getD 2 undef, ts.getD 3 undef, ts.getD 4 undef, ts.getD 5 undef, ts.getD 6 undef, ts.getD 7 undef, ts.getD 8 undef, ts.getD 9 undef, ts.getD 10 undef, ts.getD 11 undef, ts.getD 12 undef, ts.getD 13 undef, ts.getD 14 undef, ts.getD 15 undef, ts.getD 16 undef, ts.getD 17 undef, ts.getD 18 undef, ts.getD 19 undef, ts.getD 20 undef, ts.getD 21 undef, ts.getD 22 undef, ts.getD 23 undef, ts.getD 24 undef, ts.getD 25 undef, ts.getD 26 undef, ts.getD 27 undef, ts.getD 28 undef, ts.getD 29 undef, ts.getD 30 undef, ts.getD 31 undef, ts.getD 32 undef, ts.getD 33 undef, ts.getD 34 undef, ts.getD 35 undef, ts.getD 36 undef, ts.getD 37 undef, ts.getD 38 undef, ts.getD 39 undef, ts.getD 40 undef, ts.getD 41 undef, ts.getD 42 undef, ts.getD 43 undef, ts.getD 44 undef, ts.getD 45 undef, ts.getD 46 undef, ts.getD 47 undef, ts.getD 48 undef, ts.getD 49 undef, ts.getD 50 undef, ts.getD 51 undef, ts.getD 52 undef, ts.getD 53 undef, ts.getD 54 undef, ts.getD 55 undef, ts.getD 56 undef, ts.getD 57 undef, ts.getD 58 undef, ts.getD 59 undef, ts.getD 60 undef, ts.getD 61 undef, ts.getD 62 undef, ts.getD 63 undef, ts.getD 64 undef, ts.getD 65 undef, ts.getD 66 undef, ts.getD 67 undef, ts.getD 68 undef, ts.getD 69 undef, ts.getD 70 undef, ts.getD 71 undef, ts.getD 72 undef, ts.getD 73 undef, ts.getD 74 undef, ts.getD 75 undef, ts.getD 76 undef, ts.getD 77 undef, ts.getD 78 undef, ts.getD 79 undef, ts.getD 80 undef, ts.getD 81 undef, ts.getD 82 undef, ts.getD 83 undef, ts.getD 84 undef, ts.getD 85 undef, ts.getD 86 undef, ts.getD 87 undef, ts.getD 88 undef, ts.getD 89 undef, ts.getD 90 undef, ts.getD 91 undef, ts.getD 92 undef, ts.getD 93 undef, ts.getD 94 undef, ts.getD 95 undef, ts.getD 96 undef, ts.getD 97 undef, ts.getD 98 undef, ts.getD 99 undef, ts.getD 100 undef, ts.getD 101 undef, ts.getD 102 undef]
  rw [← e (fun k => ts.getD k undef)]
  refine List.ext_getElem (by simp [h]) fun k h1 h2 => ?_
  have hk : k < ts.size := by simpa using h1
  simp [hk]
/-- The slots that the second loop leaves as they are. -/
def Slots (nb rb pb mx kb qb rwb : Nat) (st : Int) (ts : Array Value) : Prop := ts.size = 103 ∧ ts.getD 2 undef = .int .u8 st ∧ ts.getD 4 undef = .pointer (some ⟨nb, 0, none⟩) ∧ ts.getD 6 undef = .pointer (some ⟨rb, 0, none⟩) ∧ ts.getD 7 undef = .pointer (some ⟨qb, 0, none⟩) ∧ ts.getD 8 undef = .pointer (some ⟨pb, 0, none⟩) ∧ ts.getD 9 undef = .pointer (some ⟨rwb, 0, none⟩) ∧ ts.getD 12 undef = .pointer (some ⟨mx, 0, none⟩) ∧ ts.getD 13 undef = .pointer (some ⟨kb, 0, none⟩)
def OuterE (B nb rb pb mx sm kb qb rwb : Nat) (nx : Array Value) (w : World) (st : Int) (k : Nat) (Ds : List Nat) (W : World) : Prop :=
  ∃ v mo rv l sn, Ds.Nodup ∧ (∀ D ∈ Ds, W.heap[D]? = some (.deferred (some []))) ∧ DS B W.heap.size nb rb pb mx sm kb Ds qb rwb nx w k (40 + 3 * k) W v mo rv l l sn ∧ k ≤ 42
/-- Between two rounds of the second loop. -/
def Outer (B nb rb pb mx sm kb qb rwb : Nat) (nx : Array Value) (w : World) (st : Int) (k : Nat) (a : Act) (W : World) : Prop :=
  Slots nb rb pb mx kb qb rwb st a.tmps ∧ ∃ Ds v mo rv l sn, a.defers = Ds.map coll ∧ Ds.Nodup ∧ (∀ D ∈ Ds, W.heap[D]? = some (.deferred (some []))) ∧ DS B W.heap.size nb rb pb mx sm kb Ds qb rwb nx w k (40 + 3 * k) W v mo rv l l sn ∧ k ≤ 42
theorem ds_start {B nb rb pb qb rwb : Nat} {nx : Array Value} {w : World} {k : Nat} {W : World} {v : Value} {mo : Option Nat} {rv : Value} {l : List Int} (h : D1 B nb rb pb qb rwb nx w k W v mo rv l) (hk : k ≤ 40) (hB : B ≤ w.heap.size) :
    DS B (((W.alloc (.map #[] 0)).alloc (.cells #[.map (some W.heap.size)] 27)).alloc (.cells #[.int .i64 0] 3)).heap.size nb rb pb (W.heap.size + 1) W.heap.size (W.heap.size + 2) [] qb rwb nx w 0 (40 + 3 * 0) (((W.alloc (.map #[] 0)).alloc (.cells #[.map (some W.heap.size)] 27)).alloc (.cells #[.int .i64 0] 3)) v mo rv l l [] := by
  have hsz := bel_sz h.bel hB
  have m0 := mapHas_made (P := Try.prog) (k := 3) (q := .i64) (R := plainElem Try.prog 4) W
  generalize hA : W.alloc (.map #[] 0) = A at m0 ⊢
  have zA : A.heap.size = W.heap.size + 1 := by rw [← hA]; simp
  have tA : Tch [] W A := by rw [← hA]; exact (Tch.refl _ W).alloc _
  generalize hC : A.alloc (.cells #[.map (some W.heap.size)] 27) = C
  have zC : C.heap.size = W.heap.size + 2 := by rw [← hC]; simp [zA]
  have oC : C.heap[W.heap.size + 1]? = some (.cells #[.map (some W.heap.size)] 27 (0, 0)) := by rw [← hC, ← zA]; exact heap_alloc_new A _
  have tC : Tch [] A C := by rw [← hC]; exact (Tch.refl _ A).alloc _
  generalize hD : C.alloc (.cells #[.int .i64 0] 3) = D
  have zD : D.heap.size = W.heap.size + 3 := by rw [← hD]; simp [zC]
  have oD : D.heap[W.heap.size + 2]? = some (.cells #[.int .i64 0] 3 (0, 0)) := by rw [← hD, ← zC]; exact heap_alloc_new C _
  have tD : Tch [] C D := by rw [← hD]; exact (Tch.refl _ C).alloc _
  have t := (tA.trans tC).trans tD
  have q := (h.q2.else t (by simp)).up (k' := 40 + 3 * 0) (by omega)
  have lt2 : ∀ b ∈ own2 qb rwb v mo rv, b < W.heap.size := fun b hb => by
    simp only [own2, List.mem_cons, List.mem_append] at hb
    rcases hb with e | e | e | e
    · rw [e]; exact h.q2.q.lt.1
    · rw [e]; exact Boxed.lt h.q2.bx
    · exact h.q2.q.lt.2 b e
    · exact h.q2.row.lt b e
  refine ⟨⟨q.q, q.bx, q.row, fun b hb => ?_, q.qr, q.rn, q.dis, q.lo⟩, t.obj h.nxo (by simp), t.obj h.rso (by simp), t.obj h.pqo (by simp), tD.obj oC (by simp), ⟨0, ((m0.kept (tC.trans tD) (by simp)).mono (by omega)).cong (fun x _ => by simp [inl])⟩, oD, by simp, h.bel.trans (t.below hsz (by simp)), fun b hb => ?_, h.rng, by have := h.len; omega, by have := h.len; omega, fun m e => ?_, by omega⟩
  · have hlt := h.q2.ot b
    simp only [List.mem_cons, List.not_mem_nil, or_false] at hb hlt
    rcases hb with e | e | e | e | e | e
    · exact ⟨by have := (hlt (.inl e)).1; omega, (hlt (.inl e)).2⟩
    · exact ⟨by have := (hlt (.inr (.inl e))).1; omega, (hlt (.inr (.inl e))).2⟩
    · exact ⟨by have := (hlt (.inr (.inr e))).1; omega, (hlt (.inr (.inr e))).2⟩
    all_goals exact ⟨by omega, fun hm => by have := lt2 b hm; omega⟩
  · have hlo := h.lo b
    simp only [List.mem_cons, List.not_mem_nil, or_false] at hb hlo
    rcases hb with e | e | e | e | e | e
    · exact hlo (.inl e)
    · exact hlo (.inr (.inl e))
    · exact hlo (.inr (.inr e))
    all_goals omega
  · have := h.q2.q.lt.2 m (by subst e; simp [footI]); omega
section
variable {F : Fence} {nF : Nat} {P : Program} (w : World) {ops : Array Oper} {rest : List Oper} {o : Oper} {a : Act} {Q : Exit → Act → World → Prop}
theorem wpListIn_lookup_to (hg : o.guard = none) (m x : Operand) (t : TypeId) (c : Bool) (hop : o.op = Op.lookup t m x c) {mv key v : Value} (hm : a.eval m = mv) (hx : a.eval x = key)
    (hr : (Instr.lookup t mv key c).run P w = .ok v w) (hK : wpListIn F nF P ops Q rest (a.put o.dst v) w) : wpListIn F nF P ops Q (o :: rest) a w := by
  refine wpListIn_plain hg fun K' hK' => ?_
  unfold Oper.wpIn
  refine ⟨by simp [Oper.about, hop], ?_⟩
  rw [Oper.semAt_plain F _ _ (by rw [hop]; intro c hc'; cases hc')]
  simp [execOp, hop, hm, hx, hr, Result.andThen]
  exact hK' _ _ hK
theorem wpListIn_update_to (hg : o.guard = none) (m x v : Operand) (t : TypeId) (hop : o.op = Op.mapUpdate t m x v) {mv key val : Value} (hm : a.eval m = mv) (hx : a.eval x = key) (hv : a.eval v = val) {w' : World}
    (hr : (Instr.mapUpdate t mv key val).run P w = .ok () w') (hK : wpListIn F nF P ops Q rest (a.put o.dst undef) w') : wpListIn F nF P ops Q (o :: rest) a w := by
  refine wpListIn_plain hg fun K' hK' => ?_
  unfold Oper.wpIn
  refine ⟨by simp [Oper.about, hop], ?_⟩
  rw [Oper.semAt_plain F _ _ (by rw [hop]; intro c hc'; cases hc')]
  simp [execOp, hop, hm, hx, hv, hr, Result.andThen]
  exact hK' _ _ hK
theorem wpListIn_append_to (hg : o.guard = none) (s x : Operand) (t tn : TypeId) (ho : o.op = .call { callee := .builtin .append, args := #[s, x], argTypes := #[t, tn] }) {vs vx v' : Value} {w' : World} (hs : a.eval s = vs) (hx : a.eval x = vx)
    (hr : (Builtin.append_ #[t, tn] o.type #[vs, vx]).run P w = .ok v' w') (h : wpListIn F nF P ops Q rest (a.put o.dst v') w') : wpListIn F nF P ops Q (o :: rest) a w := by
  refine wpListIn_plain hg fun K hK => ?_
  unfold Oper.wpIn
  refine ⟨by simp [Oper.about, ho, resolve, Target.leads, Sem.run_pure], ?_⟩
  rw [Oper.semAt_plain F _ _ (by rw [ho]; intro c hc'; cases hc')]
  simp [execOp, ho, resolve, invoke, builtin, hs, hx, hr, Result.andThen]
  exact hK _ _ h
end
/-- What lies below B' beside the state: the marks of the ranges before, the iterator's box, the box of `some`. -/
structure Fx (B' : Nat) (Ds : List Nat) (Bs qp sb : Nat) (bs : Bool) (W : World) : Prop where
  ds : ∀ D ∈ Ds, D < B' ∧ W.heap[D]? = some (.deferred (some []))
  bo : W.heap[Bs]? = some (.cells #[.pointer (some ⟨qp, 0, none⟩)] 100 (0, 0))
  so : W.heap[sb]? = some (.cells #[.bool bs] 4 (0, 0))
theorem Fx.grown {B' : Nat} {Ds : List Nat} {Bs qp sb : Nat} {bs : Bool} {W W' : World} (h : Fx B' Ds Bs qp sb bs W) {row : Option Nat} (g : W.grownBy W' row) (hr : ∀ r, row = some r → B' ≤ r ∧ ∃ o : Obj, W.heap[r]? = some o ∧ o.isCells = false) : Fx B' Ds Bs qp sb bs W' := by
  have t : Tch row.toList W W' := Tch.of_grown g (fun k e => by simp [e])
  have no : ∀ (b : Nat) (cs : Array Value) (ty : TypeId) (z : Nat × Nat), W.heap[b]? = some (.cells cs ty z) → ¬ b ∈ row.toList := fun b cs ty z hb hm => by
    obtain ⟨_, o, ho, hc⟩ := hr b (by simpa using hm)
    rw [hb] at ho; cases ho; simp [Obj.isCells] at hc
  exact ⟨fun D hD => ⟨(h.ds D hD).1, t.obj (h.ds D hD).2 (fun hm => by have := (hr D (by simpa using hm)).1; have := (h.ds D hD).1; omega)⟩, t.obj h.bo (no _ _ _ _ h.bo), t.obj h.so (no _ _ _ _ h.so)⟩
theorem Fx.step {B' : Nat} {Ds : List Nat} {Bs qp sb : Nat} {bs : Bool} {W W' : World} (h : Fx B' Ds Bs qp sb bs W) {E : List Nat} (s : Stp B' E W W') (hE : ∀ b ∈ Bs :: sb :: Ds, b ∈ E) : Fx B' Ds Bs qp sb bs W' :=
  ⟨fun D hD => ⟨(h.ds D hD).1, s.same D (hE D (by simp [hD])) _ (h.ds D hD).2⟩, s.same Bs (hE Bs (by simp)) _ h.bo, s.same sb (hE sb (by simp)) _ h.so⟩
section
variable {B B' nb rb pb mx sm kb : Nat} {E : List Nat} {qb rwb : Nat} {nx : Array Value} {w : World} {k c : Nat} {W W' : World} {v : Value} {mo : Option Nat} {rv : Value} {l l' sn : List Int}
/-- One block more that is kept. -/
theorem DS.more (h : DS B B' nb rb pb mx sm kb E qb rwb nx w k c W v mo rv l l' sn) {b : Nat} (h1 : b < W.heap.size) (h2 : ¬ b ∈ own2 qb rwb v mo rv) (h3 : ¬ b ∈ [nb, rb, pb, mx, sm, kb]) (h4 : B ≤ b) : DS B B' nb rb pb mx sm kb (b :: E) qb rwb nx w k c W v mo rv l l' sn := by
  refine { h with q2 := { h.q2 with ot := fun y hy => ?_ }, en := fun y hy => ?_, lo := fun y hy => ?_ }
  · simp only [List.mem_cons] at hy
    by_cases e : y = b
    · rw [e]; exact ⟨h1, h2⟩
    · exact h.q2.ot y (by simp only [List.mem_cons]; simp only [e, false_or] at hy; exact hy)
  · rcases List.mem_cons.1 hy with e | e
    · rw [e]; exact h3
    · exact h.en y e
  · simp only [List.mem_cons] at hy
    by_cases e : y = b
    · rw [e]; exact h4
    · exact h.lo y (by simp only [List.mem_cons]; simp only [e, false_or] at hy; exact hy)
/-- Fewer blocks that are kept. -/
theorem DS.less (h : DS B B' nb rb pb mx sm kb E qb rwb nx w k c W v mo rv l l' sn) {E' : List Nat} (hE : ∀ b ∈ E', b ∈ E) : DS B B' nb rb pb mx sm kb E' qb rwb nx w k c W v mo rv l l' sn := by
  refine { h with q2 := { h.q2 with ot := fun y hy => ?_ }, en := fun y hy => h.en y (hE y hy), lo := fun y hy => ?_ }
  · simp only [List.mem_cons] at hy
    exact h.q2.ot y (by simp only [List.mem_cons]; rcases hy with e | e | e | e | e | e | e <;> simp [e, hE])
  · simp only [List.mem_cons] at hy
    exact h.lo y (by simp only [List.mem_cons]; rcases hy with e | e | e | e | e | e | e <;> simp [e, hE])
theorem DS.lt2 (h : DS B B' nb rb pb mx sm kb E qb rwb nx w k c W v mo rv l l' sn) : (∀ b ∈ own2 qb rwb v mo rv, b < W.heap.size) ∧ ∀ b ∈ [nb, rb, pb, mx, sm, kb], b < W.heap.size := by
  refine ⟨fun b hb => ?_, fun b hb => (h.q2.ot b (by simp only [List.mem_cons, List.not_mem_nil, or_false] at hb ⊢; rcases hb with e | e | e | e | e | e <;> simp [e])).1⟩
  simp only [own2, List.mem_cons, List.mem_append] at hb
  rcases hb with e | e | e | e
  · rw [e]; exact h.q2.q.lt.1
  · rw [e]; exact Boxed.lt h.q2.bx
  · exact h.q2.q.lt.2 b e
  · exact h.q2.row.lt b e
/-- A block laid anew, and kept. -/
theorem ds_new (h : DS B B' nb rb pb mx sm kb E qb rwb nx w k c W v mo rv l l' sn) (hB : B ≤ w.heap.size) (o : Obj) : DS B (W.alloc o).heap.size nb rb pb mx sm kb (W.heap.size :: E) qb rwb nx w k c (W.alloc o) v mo rv l l' sn := by
  have t : Tch [] W (W.alloc o) := (Tch.refl _ W).alloc _
  have h2 := (h.else t (by simp) (by simp) (t.below (bel_sz h.bel hB) (by simp))).rebase
  obtain ⟨l1, l2⟩ := h.lt2
  exact h2.more (by simp) (fun hm => by have := l1 _ hm; omega) (fun hm => by have := l2 _ hm; omega) (bel_sz h.bel hB)
/-- A range's mark, kept. -/
theorem ds_marked (h : DS B B' nb rb pb mx sm kb E qb rwb nx w k c W v mo rv l l' sn) (hBB : B ≤ B') {D : Nat} (hD : W.heap[D]? = some (.deferred (some []))) (hlo : B' ≤ D) {E' : List Nat} (hE : ∀ b ∈ E', b ∈ E) : DS B W.heap.size nb rb pb mx sm kb (D :: E') qb rwb nx w k c W v mo rv l l' sn := by
  have no : ∀ (b : Nat) (cs : Array Value) (ty : TypeId) (z : Nat × Nat), W.heap[b]? = some (.cells cs ty z) → ¬ D = b := fun b cs ty z hb e => by
    subst e; rw [hb] at hD; cases hD
  refine ((h.less hE).rebase).more (lt_of_obj hD) (fun hm => ?_) (fun hm => ?_) (by omega)
  · simp only [own2, footI, List.mem_cons, List.mem_append] at hm
    rcases hm with e | e | (e | e) | e
    · exact no _ _ _ _ h.q2.q.1 e
    · exact no _ _ _ _ h.q2.bx e
    · obtain ⟨_, _, _, g⟩ := seg_cells h.q2.q.2.1 D e; exact no _ _ _ _ g rfl
    · have := h.mob D (by cases mo <;> simp_all); omega
    · obtain ⟨_, _, _, g⟩ := seg_cells h.q2.row D e; exact no _ _ _ _ g rfl
  · simp only [List.mem_cons, List.not_mem_nil, or_false] at hm
    rcases hm with e | e | e | e | e | e
    · exact no _ _ _ _ h.nxo e
    · exact no _ _ _ _ h.rso e
    · exact no _ _ _ _ h.pqo e
    · exact no _ _ _ _ h.mxo e
    · have := h.smb; omega
    · exact no _ _ _ _ h.kbo e
end
/-- Between two rounds of the inner range. -/
def InI (B B' nb rb pb mx sm kb sb Bs : Nat) (Ds : List Nat) (qb rwb : Nat) (nx : Array Value) (w : World) (k0 m : Nat) (W : World) : Prop :=
  ∃ k bs v mo rv l sn, DS B B' nb rb pb mx sm kb (sb :: Bs :: Ds) qb rwb nx w k (40 + 3 * k) W v mo rv l l sn ∧ Fx B' Ds Bs qb sb bs W ∧ k0 ≤ k ∧ m = 3 - k % 3 ∧ k + m ≤ k0 + 3 ∧ (bs = false → k = k0) ∧ (bs = true → k0 < k)
/-- One has been taken. -/
def InY (B B' nb rb pb mx sm kb sb Bs : Nat) (Ds : List Nat) (qb rwb : Nat) (nx : Array Value) (w : World) (k0 m : Nat) (x : Int) (W : World) : Prop :=
  ∃ k bs v mo rv r sn, DS B B' nb rb pb mx sm kb (sb :: Bs :: Ds) qb rwb nx w k (40 + 3 * k) W v mo rv r (x :: r) sn ∧ Fx B' Ds Bs qb sb bs W ∧ (∃ mm, mo = some mm) ∧ 0 ≤ x ∧ x < 16 ∧ k0 ≤ k ∧ m = 3 - k % 3 ∧ k + m ≤ k0 + 3
/-- The range is over. -/
def InD (B B' nb rb pb mx sm kb sb Bs : Nat) (Ds : List Nat) (qb rwb : Nat) (nx : Array Value) (w : World) (k0 : Nat) (W : World) : Prop :=
  ∃ k bs v mo rv l sn, DS B B' nb rb pb mx sm kb (sb :: Bs :: Ds) qb rwb nx w k (40 + 3 * k) W v mo rv l l sn ∧ Fx B' Ds Bs qb sb bs W ∧ k0 ≤ k ∧ k ≤ k0 + 3 ∧ (bs = true → k0 < k)
section
variable {B B' nb rb pb mx sm kb sb Bs : Nat} {Ds : List Nat} {qb rwb : Nat} {nx : Array Value} {w : World} {k0 m : Nat} {x : Int} {W W' : World}
theorem in_take (h : InI B B' nb rb pb mx sm kb sb Bs Ds qb rwb nx w k0 m W) (hB : B ≤ w.heap.size) : W.cell? ⟨Bs, 0, none⟩ = some (.pointer (some ⟨qb, 0, none⟩)) ∧
    Calls Try.prog 64 #[.pointer (some ⟨qb, 0, none⟩)] W (TakesI B' qb (InY B B' nb rb pb mx sm kb sb Bs Ds qb rwb nx w k0) (InD B B' nb rb pb mx sm kb sb Bs Ds qb rwb nx w k0) m W) := by
  obtain ⟨k, bs, v, mo, rv, l, sn, d, f, h1, h2, h3, h4, h5⟩ := h
  refine ⟨by rw [cell_of_row _ _ 0 _ _ _ f.bo]; rfl, ?_⟩
  cases l with
  | nil =>
    refine (take_none_I qb v mo _ W d.q2.q).mono ?_
    rintro e W2 ⟨he, rfl⟩
    exact ⟨KeepsFrom.refl _ _, .inl ⟨he, k, bs, v, mo, rv, [], sn, d, f, h1, by omega, h5⟩⟩
  | cons x r =>
    refine (ds_take d hB).mono ?_
    rintro e W2 ⟨he, v', d2, s2⟩
    refine ⟨s2.kf, .inr ⟨x, he, k, bs, v', mo, rv, r, sn, d2, f.step s2 (fun b hb => ?_), ?_, (d.rng x (by simp)).1, (d.rng x (by simp)).2, h1, h2, h3⟩⟩
    · simp only [List.mem_cons] at hb ⊢
      rcases hb with e | e | e
      · exact .inr (.inl e)
      · exact .inl e
      · exact .inr (.inr e)
    · rcases d.q2.q.2.2.2.1 with ⟨_, e⟩ | ⟨mb, sz, e, _⟩
      · cases e
      · exact ⟨mb, e⟩
theorem inI_own (hB : B ≤ w.heap.size) (hBB : B ≤ B') : OwnFrom B' (InI B B' nb rb pb mx sm kb sb Bs Ds qb rwb nx w k0) := by
  rintro s W1 W2 row ⟨k, bs, v, mo, rv, l, sn, d, f, h⟩ g hr
  exact ⟨k, bs, v, mo, rv, l, sn, d.grown hB hBB g hr, f.grown g hr, h⟩
theorem inY_own (hB : B ≤ w.heap.size) (hBB : B ≤ B') (m : Nat) : OwnFrom B' (InY B B' nb rb pb mx sm kb sb Bs Ds qb rwb nx w k0 m) := by
  rintro s W1 W2 row ⟨k, bs, v, mo, rv, r, sn, d, f, h⟩ g hr
  exact ⟨k, bs, v, mo, rv, r, sn, d.grown hB hBB g hr, f.grown g hr, h⟩
theorem inD_grown (hB : B ≤ w.heap.size) (hBB : B ≤ B') {W1 W2 : World} {row : Option Nat} (h : InD B B' nb rb pb mx sm kb sb Bs Ds qb rwb nx w k0 W1) (g : W1.grownBy W2 row) (hr : ∀ r, row = some r → B' ≤ r ∧ ∃ o : Obj, W1.heap[r]? = some o ∧ o.isCells = false) : InD B B' nb rb pb mx sm kb sb Bs Ds qb rwb nx w k0 W2 := by
  obtain ⟨k, bs, v, mo, rv, l, sn, d, f, h⟩ := h
  exact ⟨k, bs, v, mo, rv, l, sn, d.grown hB hBB g hr, f.grown g hr, h⟩
/-- `some` is set. -/
theorem fx_some {bs : Bool} (f : Fx B' Ds Bs qb sb bs W) (s : Stp B' (Bs :: Ds) W W') (o : W'.heap[sb]? = some (.cells #[.bool true] 4 (0, 0))) : Fx B' Ds Bs qb sb true W' :=
  ⟨fun D hD => ⟨(f.ds D hD).1, s.same D (by simp [hD]) _ (f.ds D hD).2⟩, s.same Bs (by simp) _ f.bo, o⟩
theorem fx_step {bs : Bool} (f : Fx B' Ds Bs qb sb bs W) (s : Stp B' (sb :: Bs :: Ds) W W') : Fx B' Ds Bs qb sb bs W' :=
  f.step s (fun b hb => by
    simp only [List.mem_cons] at hb ⊢
    rcases hb with e | e | e
    · exact .inr (.inl e)
    · exact .inl e
    · exact .inr (.inr e))
end
/-- The slots that a round of the inner range leaves as they are. -/
def SlotsB (nb rb mx kb qb rwb sb : Nat) (x : Int) (ts : Array Value) : Prop := ts.size = 103 ∧ ts.getD 4 undef = .pointer (some ⟨nb, 0, none⟩) ∧ ts.getD 6 undef = .pointer (some ⟨rb, 0, none⟩) ∧ ts.getD 7 undef = .pointer (some ⟨qb, 0, none⟩) ∧ ts.getD 9 undef = .pointer (some ⟨rwb, 0, none⟩) ∧ ts.getD 12 undef = .pointer (some ⟨mx, 0, none⟩) ∧ ts.getD 13 undef = .pointer (some ⟨kb, 0, none⟩) ∧ ts.getD 14 undef = .pointer (some ⟨sb, 0, none⟩) ∧ ts.getD 15 undef = .int .i64 x
theorem wpIn_seq4_k {F : Fence} {n : Nat} {P : Program} {A B C D : Code} {Q : Exit → Act → World → Prop} {a : Act} {w : World}
    (h : ∀ K : Act → World → Prop, (∀ a w, D.wpIn F n P Q a w → K a w) → A.wpIn F n P (Exit.then (fun a w => B.wpIn F n P (Exit.then (fun a w => C.wpIn F n P (Exit.then K Q) a w) Q) a w) Q) a w) : (Code.seq A (Code.seq B (Code.seq C D))).wpIn F n P Q a w := by
  refine wpIn_seq (wpIn_mono (h _ (fun _ _ h => h)) ?_)
  intro e a1 w1 h1
  cases e with
  | normal =>
    refine wpIn_seq (wpIn_mono h1 ?_)
    intro e a2 w2 h2
    cases e with
    | normal => exact wpIn_seq h2
    | _ => exact h2
  | _ => exact h1
end Go.Proofs.Ytfokekciemofiaa
