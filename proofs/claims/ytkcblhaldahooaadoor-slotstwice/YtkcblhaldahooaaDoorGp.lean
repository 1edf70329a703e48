/- Joined: GpL, GpO. -/
import Derived.Test.YtkcblhaldahooaaDoorGd
import Derived.Test.YtkcblhaldahooaaDoorKb
import Derived.Test.YtkcblhaldahooaaDoorDg


/- graph.labelled: the place of each label's first block. -/
set_option linter.unusedSimpArgs false
set_option linter.unusedVariables false
namespace Go.Proofs.YtkcblhaldahooaaDoor
open Go.RowKit Go.Sort Go.Maps

set_option maxRecDepth 100000 in
set_option maxHeartbeats 4000000 in
/-- **labelled.** -/
theorem labelled_any {w : World} {v : Value} {bs : List BlkM} (hs : Sl w 43 7 v bs.length (blkC bs)) (hl : bs.length ≤ 1000) (hw : ∀ B ∈ bs, wfi B.lab) (hz : ∀ B ∈ bs, BlkV B) :
    Calls Tryd.prog 64 #[.agg #[v]] w fun e w' => ∃ mb sz, e = .returned (.map (some mb)) ∧ MNum w' mb bs.length sz (posN (labsOf bs)) ∧ w.heap.size ≤ mb ∧ Tch [] w w' := by
  have hmm := @run_makeMap Tryd.prog
  obtain ⟨va, vc, hv⟩ := hs.shape
  subst hv
  have T0 := hid (((Tch.refl [] w).alloc (.cells #[.slice va bs.length vc] 28)).alloc (.map #[] 0))
  have M0 : Hid (MNum ((w.alloc (.cells #[.slice va bs.length vc] 28)).alloc (.map #[] 0)) (w.heap.size + 1) 0 0 (posN (labsOf (bs.take 0)))) := by
    have := mNum_made (w.alloc (.cells #[.slice va bs.length vc] 28))
    rw [show (w.alloc (.cells #[.slice va bs.length vc] 28)).heap.size = w.heap.size + 1 by simp] at this
    exact this
  have HS := hid (hs.kept T0.out (by simp))
  have HLT := hid hs.lt
  have HW := hid hw
  have HZ := hid hz
  clear hs hw hz
  go_enter Tryd.func64, Tryd.ntmps64
  go_upto_region 3 with fail
  generalize (w.alloc (.cells #[.slice va bs.length vc] 28)).alloc (.map #[] 0) = w1 at *
  clear hmm
  go_wp2_with fail
  go_loopw [4, 5, 6, 7, 12] (fun _ _ _ _ vi wr => ∃ k sz : Nat, vi = .int .i64 k ∧ k ≤ bs.length ∧ Hid (MNum wr (w.heap.size + 1) k sz (posN (labsOf (bs.take k))) ∧ Tch [w.heap.size + 1] w1 wr)) (fun _ _ _ _ vi _ => bs.length - (intOf vi).toNat)
  case atStart => exact ⟨0, 0, rfl, Nat.zero_le _, M0.out, Tch.refl _ _⟩
  case round =>
    obtain ⟨k, sz, rfl, hk, HK⟩ := hrel
    clear M0
    have HNO : Hid (∀ q ∈ blks (.slice va bs.length vc), ¬ q ∈ [w.heap.size + 1]) := fun q hq h1 => by have := HLT.out q hq; simp at h1; omega
    by_cases hlk : k < bs.length
    · obtain ⟨B, hB⟩ : ∃ B, bs[k]? = some B := ⟨bs[k], by simp [hlk]⟩
      have wx := HW.out B (List.mem_of_getElem? hB)
      obtain ⟨⟨pa, pn, pc, hpv⟩, ia, im, ic, hiv⟩ := HZ.out B (List.mem_of_getElem? hB)
      have HTK := hid (labs_take bs k hB)
      have sx := HS.out.kept HK.out.2 HNO.out
      obtain ⟨b3, o3, d3, hv⟩ := sx.ptr (Nat.zero_lt_of_lt hlk)
      cases hv
      obtain ⟨lab, pv, phs, iv, ins, e, ra, y, m⟩ := B
      obtain ⟨y0, y1, y2, y3, y4, y5, y6⟩ := blk_at sx k hB
      dsimp only at y0 y1 y2 y3 y4 y5 y6 wx HTK hpv hiv
      subst hpv hiv
      have lt3 : b3 < wr.heap.size := cell_lt y0
      have wk2 : wfi (k : Int) := wfi_of (by omega) (by omega)
      have t5 : Tch [] wr (wr.alloc (.cells #[.int .i64 lab, .slice pa pn pc, .slice ia im ic, .int .u8 e, .int .i64 ra, .int .i64 y, .int .i64 m] 43)) := (Tch.refl [] wr).alloc _
      have M5 := hid (HK.out.1.kept t5 (by simp))
      have T5 := hid (HK.out.2.alloc (.cells #[.int .i64 lab, .slice pa pn pc, .slice ia im ic, .int .u8 e, .int .i64 ra, .int .i64 y, .int .i64 m] 43))
      have O5 := heap_alloc_new wr (.cells #[.int .i64 lab, .slice pa pn pc, .slice ia im ic, .int .u8 e, .int .i64 ra, .int .i64 y, .int .i64 m] 43)
      clear sx hB HK t5
      by_cases hin : lab ∈ labsOf (bs.take k)
      · have hlo := M5.out.lookOk wx
        obtain ⟨q, hq⟩ : ∃ q, posN (labsOf (bs.take k)) lab = some q := by unfold posN; rw [if_pos hin]; exact ⟨_, rfl⟩
        rw [hq] at hlo
        simp only [Option.getD_some, Option.isSome_some] at hlo
        have M6 : Hid (MNum (wr.alloc (.cells #[.int .i64 lab, .slice pa pn pc, .slice ia im ic, .int .u8 e, .int .i64 ra, .int .i64 y, .int .i64 m] 43)) (w.heap.size + 1) (k + 1) sz (posN (labsOf (bs.take (k + 1))))) := by
          rw [HTK.out, posN_dup _ _ hin]; exact M5.out.mono (by omega)
        clear hq hin
        go_upto_region 5 with fail
        generalize wr.alloc (.cells #[.int .i64 lab, .slice pa pn pc, .slice ia im ic, .int .u8 e, .int .i64 ra, .int .i64 y, .int .i64 m] 43) = w5 at *
        have c0 := cell_of_row _ _ 0 _ _ _ O5
        simp only [List.getElem?_toArray, List.getElem?_cons_zero] at c0
        clear y0 y1 y2 y3 y4 y5 y6 O5
        go_wp2_with fail
        go_roundw
        case rel => exact ⟨k + 1, sz, by go_num, by omega, M6.out, T5.out⟩
        case measure => simp [intOf]; omega
      · have hlo := M5.out.lookOk wx
        have hq : posN (labsOf (bs.take k)) lab = none := by unfold posN; rw [if_neg hin]
        rw [hq] at hlo
        simp only [Option.getD_none, Option.isSome_none] at hlo
        obtain ⟨w11, hst, m11, t11⟩ := M5.out.store (by unfold maxLen; omega) wx wk2 hq
        have M11 : Hid (MNum w11 (w.heap.size + 1) (k + 1) (sz + 1) (posN (labsOf (bs.take (k + 1))))) := by
          rw [HTK.out, posN_snoc _ _ hin]
          unfold labsOf
          rw [List.length_map, List.length_take, Nat.min_eq_left hk]
          exact m11
        have T11 := hid (T5.out.trans t11)
        clear m11 t11 hq hin
        go_upto_region 5 with fail
        generalize wr.alloc (.cells #[.int .i64 lab, .slice pa pn pc, .slice ia im ic, .int .u8 e, .int .i64 ra, .int .i64 y, .int .i64 m] 43) = w5 at *
        have c0 := cell_of_row _ _ 0 _ _ _ O5
        simp only [List.getElem?_toArray, List.getElem?_cons_zero] at c0
        clear y0 y1 y2 y3 y4 y5 y6 O5
        go_wp2_with fail
        go_roundw
        case rel => exact ⟨k + 1, sz + 1, by go_num, by omega, M11.out, T11.out⟩
        case measure => simp [intOf]; omega
    · have ekl : bs.length = k := by omega
      have hkk : ((k : Int) < (bs.length : Int)) = False := by simp; omega
      have HM : Hid (MNum wr (w.heap.size + 1) bs.length sz (posN (labsOf bs))) := by
        have := HK.out.1
        rw [← ekl, List.take_length] at this; exact this
      clear ekl
      go_wp2_with fail
      go_ret
      exact ⟨w.heap.size + 1, sz, rfl, HM.out, by omega, T0.out.trans3 HK.out.2 (fun q hq => by simp at hq; omega)⟩
end Go.Proofs.YtkcblhaldahooaaDoor


/- graph.Of: a program's graph. -/
set_option linter.unusedSimpArgs false
set_option linter.unusedVariables false
namespace Go.Proofs.YtkcblhaldahooaaDoor
open Go.RowKit Go.Sort Go.Maps

/-- One end's labels joined. -/
def joL (P : Int → Option Int) (i : Int) (F : Int → List Int) (ls : List Int) : Int → List Int := ls.foldl (fun F l => match P l with | some k => addE F i k | none => F) F
theorem joL_snoc (P : Int → Option Int) (i : Int) (F : Int → List Int) (ls : List Int) (l : Int) : joL P i F (ls ++ [l]) = match P l with | some k => addE (joL P i F ls) i k | none => joL P i F ls := by unfold joL; rw [List.foldl_append]; rfl
/-- What the first k blocks come to. -/
def gofK (P : Int → Option Int) (bs : List BlkM) : Nat → Int → List Int
  | 0 => nilL
  | k + 1 => match bs[k]? with | some B => joL P k (gofK P bs k) (llabs B.e B.y B.n) | none => gofK P bs k
def gof (bs : List BlkM) : Int → List Int := gofK (posN (labsOf bs)) bs bs.length
theorem gofK_succ (P : Int → Option Int) {bs : List BlkM} {k : Nat} {B : BlkM} (h : bs[k]? = some B) : gofK P bs (k + 1) = joL P k (gofK P bs k) (llabs B.e B.y B.n) := by rw [gofK, h]
theorem llabs_len (e y n : Int) : (llabs e y n).length ≤ 2 := by unfold llabs; split <;> (try split) <;> simp
theorem llabs_mem {e y n l : Int} (h : l ∈ llabs e y n) : l = y ∨ l = n := by
  unfold llabs at h
  repeat' split at h
  all_goals simp at h
  all_goals first | exact .inl h | exact h
theorem Seg.at {w : World} {e : TypeId} {v : Value} {xs : List Value} (h : Seg w e v xs) (hn : 0 < xs.length) : ∃ b off cap, v = .slice (some ⟨b, off, none⟩) xs.length cap ∧ ∀ j u, xs[j]? = some u → w.cell? ⟨b, off + j, none⟩ = some u := by
  rcases h with ⟨rfl, rfl⟩ | ⟨b, off, cap, cur, rfl, h1, h2, h3, h4, h5⟩
  · simp at hn
  · refine ⟨b, off, cap, rfl, fun j u hj => ?_⟩
    have hlt := (List.getElem?_eq_some_iff.1 hj).1
    rw [cell_of_row _ _ _ _ _ _ h1, h5 j hlt, hj]
/-- A graph of the call's own, apart from the blocks Z. -/
def GSZ (Z : Nat → Prop) (n m lo : Nat) (w0 w : World) (bm am : Nat) (F : Int → List Int) : Prop := ∃ K vF vA A, K ≤ 2 * m ∧ Gph K lo w bm am vF vA F A ∧ FA n m F A ∧ Tch [] w0 w ∧ w0.heap.size ≤ bm ∧ w0.heap.size ≤ am ∧ w0.heap.size ≤ lo ∧ lo ≤ w.heap.size ∧ bm < lo ∧ am < lo ∧ (∀ x k, k ∈ blks (vF x) → ¬ Z k) ∧ ∀ x k, k ∈ blks (vA x) → ¬ Z k
theorem GSZ.gs {Z : Nat → Prop} {n m lo : Nat} {w0 w : World} {bm am : Nat} {F : Int → List Int} (h : GSZ Z n m lo w0 w bm am F) : GS n m lo w0 w bm am F := by
  obtain ⟨K, vF, vA, A, h0, h1, h2, h3, h4, h5, h6, h7, h8, h9, _⟩ := h
  exact ⟨K, vF, vA, A, h0, h1, h2, h3, h4, h5, h6, h7, h8, h9⟩
theorem GS.z {n m lo : Nat} {w0 w w' : World} {bm am : Nat} {F : Int → List Int} (h : GS n m lo w0 w bm am F) (t : Tch [] w w') : GSZ (fun k => w.heap.size ≤ k) n m lo w0 w' bm am F := by
  obtain ⟨K, vF, vA, A, h0, h1, h2, h3, h4, h5, h6, h7, h8, h9⟩ := h
  exact ⟨K, vF, vA, A, h0, h1.tch t, h2, h3.trans t, h4, h5, h6, Nat.le_trans h7 t.size, h8, h9, fun x k hk hz => by have := (h1.f x).lt k hk; omega, fun x k hk hz => by have := (h1.g x).lt k hk; omega⟩
theorem GSZ.tch {Z : Nat → Prop} {n m lo : Nat} {w0 w w' : World} {bm am : Nat} {F : Int → List Int} (h : GSZ Z n m lo w0 w bm am F) (t : Tch [] w w') : GSZ Z n m lo w0 w' bm am F := by
  obtain ⟨K, vF, vA, A, h0, h1, h2, h3, h4, h5, h6, h7, h8, h9, h10⟩ := h
  exact ⟨K, vF, vA, A, h0, h1.tch t, h2, h3.trans t, h4, h5, h6, Nat.le_trans h7 t.size, h8, h9, h10⟩
theorem GSZ.mono {Z : Nat → Prop} {n m k lo : Nat} {w0 w : World} {bm am : Nat} {F : Int → List Int} (h : GSZ Z n m lo w0 w bm am F) (hk : m ≤ k) : GSZ Z n k lo w0 w bm am F := by
  obtain ⟨K, vF, vA, A, h0, h1, h2, h3⟩ := h
  exact ⟨K, vF, vA, A, by omega, h1, h2.mono hk, h3⟩
theorem GSZ.imp {Z Y : Nat → Prop} {n m lo : Nat} {w0 w : World} {bm am : Nat} {F : Int → List Int} (h : GSZ Z n m lo w0 w bm am F) (hz : ∀ k, Y k → Z k) : GSZ Y n m lo w0 w bm am F := by
  obtain ⟨K, vF, vA, A, h0, h1, h2, h3, h4, h5, h6, h7, h8, h9, h10, h11⟩ := h
  exact ⟨K, vF, vA, A, h0, h1, h2, h3, h4, h5, h6, h7, h8, h9, fun x k hk hy => h10 x k hk (hz k hy), fun x k hk hy => h11 x k hk (hz k hy)⟩
/-- The blocks Z stay. -/
def Kz (Z : Nat → Prop) (w w' : World) : Prop := ∀ b o, Z b → w.heap[b]? = some o → w'.heap[b]? = some o
theorem Seg.kz {Z : Nat → Prop} {w w' : World} {e : TypeId} {v : Value} {xs : List Value} (h : Seg w e v xs) (k : Kz Z w w') (hz : ∀ b ∈ blks v, Z b) : Seg w' e v xs := by
  rcases h with h | ⟨b, off, cap, cur, rfl, h1, h2⟩
  · exact .inl h
  · exact .inr ⟨b, off, cap, cur, rfl, k b _ (hz b (by simp [blks])) h1, h2⟩
/-- **Join**, apart from Z. -/
theorem join_gsz {Z : Nat → Prop} {n m lo : Nat} {w0 w : World} {bm am : Nat} {F : Int → List Int} (h : GSZ Z n m lo w0 w bm am F) (hZ : ∀ k, Z k → k < w.heap.size ∧ lo ≤ k) (hm : m ≤ 400) (hn : n ≤ 900) (a b : Int) (ha : 0 ≤ a ∧ a < n) (hb : 0 ≤ b ∧ b < n) :
    Calls Tryd.prog 66 #[.agg #[.int .i64 n, .map (some bm), .map (some am)], .int .i64 a, .int .i64 b] w fun e w' => e = .returned (.tuple #[]) ∧ GSZ Z n (m + 1) lo w0 w' bm am (addE F a b) ∧ Jt bm am lo w w' ∧ Kz Z w w' := by
  obtain ⟨K, vF, vA, A, h0, h1, h2, h3, h4, h5, h6, h7, h8, h9, z1, z2⟩ := h
  by_cases hin : b ∈ F a
  · refine (join_dup h1 n a b ha hb (by omega) (h2.rise b) (by rw [h2.has]; simpa using hin) (by have := h2.la b; omega)).mono ?_
    rintro e w' ⟨rfl, g⟩
    refine ⟨rfl, ?_, ⟨[], g.tch, by simp⟩, fun b o _ ho => g.tch.obj ho (by simp)⟩
    rw [addE, if_pos hin]
    exact GSZ.mono ⟨K, vF, vA, A, h0, h1.tch g.tch, h2, h3.trans g.tch, h4, h5, h6, Nat.le_trans h7 g.size, h8, h9, z1, z2⟩ (by omega)
  · refine (join_new h1 h7 (by omega) n a b ha hb (by omega) (h2.rise b) (by rw [h2.has]; simpa using hin) (by have := h2.la b; omega) (by have := h2.lf a; omega)).mono ?_
    rintro e w' ⟨v1, v2, rfl, p, t, q1, q2⟩
    have hS : ∀ k ∈ bm :: am :: (blks (vF a) ++ blks (vA b)), k = bm ∨ k = am ∨ lo ≤ k := fun k hk => by
      simp only [List.mem_cons, List.mem_append] at hk
      rcases hk with hk | hk | hk | hk
      · exact .inl hk
      · exact .inr (.inl hk)
      · exact .inr (.inr (h1.fo a k hk).1)
      · exact .inr (.inr (h1.go b k hk).1)
    have hNZ : ∀ k ∈ bm :: am :: (blks (vF a) ++ blks (vA b)), ¬ Z k := fun k hk hz => by
      have := hZ k hz
      simp only [List.mem_cons, List.mem_append] at hk
      rcases hk with hk | hk | hk | hk
      · omega
      · omega
      · exact z1 a k hk hz
      · exact z2 b k hk hz
    refine ⟨rfl, ?_, ⟨_, t, hS⟩, fun b' o hz ho => t.obj ho (fun hk => hNZ b' hk hz)⟩
    rw [addE, if_neg hin]
    refine ⟨K + 1 + 1, _, _, _, by omega, p, h2.add ha hb hin, h3.trans2 t (fun k hk => .inr (by rcases hS k hk with e | e | e <;> omega)), h4, h5, h6, Nat.le_trans h7 t.size, h8, h9, fun x k hk hz => ?_, fun x k hk hz => ?_⟩
    · by_cases e : x = a
      · subst e; rw [upd_same] at hk
        rcases q2 k hk with h | h
        · exact z1 _ k h hz
        · have := (hZ k hz).1; omega
      · rw [upd_other _ e] at hk; exact z1 x k hk hz
    · by_cases e : x = b
      · subst e; rw [upd_same] at hk
        rcases q1 k hk with h | h
        · exact z2 _ k h hz
        · have := (hZ k hz).1; omega
      · rw [upd_other _ e] at hk; exact z2 x k hk hz
/-- What lies there while the blocks are gone through. -/
structure OfS (Z : Nat → Prop) (bs : List BlkM) (w wr : World) (gb bm am mb lo : Nat) (m : Nat) (F : Int → List Int) : Prop where
  s : GSZ Z bs.length m lo w wr bm am F
  m : ∃ sz, MNum wr mb bs.length sz (posN (labsOf bs))
  g : wr.heap[gb]? = some (.cells #[.int .i64 bs.length, .map (some bm), .map (some am)] 108 (0, 0))
  r : wr.heap[w.heap.size + 1]? = some (.cells #[.int .i64 0, .map none, .map none] 108 (0, 0))
  q : gb < lo ∧ mb < lo ∧ ¬ gb = bm ∧ ¬ gb = am ∧ ¬ mb = bm ∧ ¬ mb = am ∧ w.heap.size + 2 ≤ bm ∧ w.heap.size + 2 ≤ am ∧ w.heap.size + 2 ≤ lo ∧ w.heap.size + 2 ≤ gb ∧ bm < lo ∧ am < lo
theorem OfS.tch {Z : Nat → Prop} {bs : List BlkM} {w wr wr' : World} {gb bm am mb lo m : Nat} {F : Int → List Int} (h : OfS Z bs w wr gb bm am mb lo m F) (t : Tch [] wr wr') : OfS Z bs w wr' gb bm am mb lo m F := by
  obtain ⟨s, ⟨sz, hm⟩, g, r, q⟩ := h
  exact ⟨s.tch t, ⟨sz, hm.kept t (by simp)⟩, t.obj g (by simp), t.obj r (by simp), q⟩
theorem OfS.z {Z : Nat → Prop} {bs : List BlkM} {w wr wr' : World} {gb bm am mb lo m : Nat} {F : Int → List Int} (h : OfS Z bs w wr gb bm am mb lo m F) (t : Tch [] wr wr') : OfS (fun k => wr.heap.size ≤ k ∧ k < wr'.heap.size) bs w wr' gb bm am mb lo m F := by
  obtain ⟨s, ⟨sz, hm⟩, g, r, q⟩ := h
  exact ⟨(s.gs.z t).imp (fun k hk => hk.1), ⟨sz, hm.kept t (by simp)⟩, t.obj g (by simp), t.obj r (by simp), q⟩
theorem OfS.no {Z : Nat → Prop} {bs : List BlkM} {w wr : World} {gb bm am mb lo m k : Nat} {F : Int → List Int} (h : OfS Z bs w wr gb bm am mb lo m F) (hk : m ≤ k) : OfS (fun _ => False) bs w wr gb bm am mb lo k F := by
  obtain ⟨s, hm, g, r, q⟩ := h
  exact ⟨(s.mono hk).imp (fun k hk => hk.elim), hm, g, r, q⟩
theorem OfS.lo {Z : Nat → Prop} {bs : List BlkM} {w wr : World} {gb bm am mb lo m : Nat} {F : Int → List Int} (h : OfS Z bs w wr gb bm am mb lo m F) : lo ≤ wr.heap.size ∧ Tch [] w wr := by
  obtain ⟨⟨K, vF, vA, A, h0, h1, h2, h3, h4, h5, h6, h7, h8, h9, z1, z2⟩, hm, g, r, q⟩ := h
  exact ⟨h7, h3⟩
theorem OfS.join {Z : Nat → Prop} {bs : List BlkM} {w wr wr' : World} {gb bm am mb lo m m' : Nat} {F F' : Int → List Int} (h : OfS Z bs w wr gb bm am mb lo m F) (s' : GSZ Z bs.length m' lo w wr' bm am F') (j : Jt bm am lo wr wr') : OfS Z bs w wr' gb bm am mb lo m' F' := by
  obtain ⟨s, ⟨sz, hm⟩, g, r, q⟩ := h
  obtain ⟨S, t2, hS⟩ := j
  refine ⟨s', ⟨sz, hm.kept t2 (fun h1 => by rcases hS _ h1 with e | e | e <;> omega)⟩, t2.obj g (fun h1 => by rcases hS _ h1 with e | e | e <;> omega), t2.obj r (fun h1 => by rcases hS _ h1 with e | e | e <;> omega), q⟩
theorem gs_szo {n m lo : Nat} {w0 w : World} {bm am : Nat} {F : Int → List Int} (h : GS n m lo w0 w bm am F) : GSZ (fun _ => False) n m lo w0 w bm am F := by
  obtain ⟨K, vF, vA, A, h0, h1, h2, h3, h4, h5, h6, h7, h8, h9⟩ := h
  exact ⟨K, vF, vA, A, h0, h1, h2, h3, h4, h5, h6, h7, h8, h9, fun _ _ _ h => h, fun _ _ _ h => h⟩
theorem Jt.size {bm am lo : Nat} {w w' : World} (h : Jt bm am lo w w') : w.heap.size ≤ w'.heap.size := by
  obtain ⟨S, t2, _⟩ := h; exact t2.size
/-- A program whose numbers may be. -/
def PrgW (bs : List BlkM) : Prop := ∀ B ∈ bs, wfi B.lab ∧ wfi B.y ∧ wfi B.n ∧ BlkV B
/-- What Of leaves. -/
def GOfP (bs : List BlkM) (w w' : World) (e : Ending) : Prop := ∃ lo bm am, e = .returned (.agg #[.int .i64 bs.length, .map (some bm), .map (some am)]) ∧ GS bs.length (2 * bs.length) lo w w' bm am (gof bs) ∧ Tch [] w w'
set_option maxRecDepth 100000 in
set_option maxHeartbeats 8000000 in
/-- **Of.** -/
theorem gof_any {w : World} {v : Value} {bs : List BlkM} (hs : Sl w 43 7 v bs.length (blkC bs)) (hl : bs.length ≤ 190) (hw : PrgW bs) :
    Calls Tryd.prog 42 #[.agg #[v]] w fun e w' => GOfP bs w w' e := by
  obtain ⟨va, vc, hv⟩ := hs.shape
  subst hv
  have t0 : Gr w ((w.alloc (.cells #[.slice va bs.length vc] 28)).alloc (.cells #[.int .i64 0, .map none, .map none] 108)) := ((Gr.refl w).alloc _).alloc _
  have o0 := heap_alloc_new w (.cells #[.slice va bs.length vc] 28)
  have o1 := heap_alloc_new (w.alloc (.cells #[.slice va bs.length vc] 28)) (.cells #[.int .i64 0, .map none, .map none] 108)
  have t01 : Tch [] (w.alloc (.cells #[.slice va bs.length vc] 28)) ((w.alloc (.cells #[.slice va bs.length vc] 28)).alloc (.cells #[.int .i64 0, .map none, .map none] 108)) := (Tch.refl [] _).alloc _
  have s0 : ((w.alloc (.cells #[.slice va bs.length vc] 28)).alloc (.cells #[.int .i64 0, .map none, .map none] 108)).heap.size = w.heap.size + 2 := by simp
  rw [show (w.alloc (.cells #[.slice va bs.length vc] 28)).heap.size = w.heap.size + 1 by simp] at o1
  have HS := hid hs
  have HW := hid hw
  have hmx : max (bs.length : Int) 0 = bs.length := by omega
  have HMX := hid hmx
  clear hs hw hmx
  go_enter Tryd.func42, Tryd.ntmps42
  go_upto_region 1 with fail
  have O0 := hid (t01.obj o0 (by simp))
  have O1 := hid o1
  have T0 := hid t0
  have S0 := hid s0
  generalize (w.alloc (.cells #[.slice va bs.length vc] 28)).alloc (.cells #[.int .i64 0, .map none, .map none] 108) = w0 at *
  clear o0 o1 t0 t01 s0
  have c0 := cell_of_row _ _ 0 _ _ _ O0.out
  simp only [List.getElem?_toArray, List.getElem?_cons_zero] at c0
  go_upto_region 2 with (go_at_call 63; refine (new_any _ _).mono ?_; rintro e w1 ⟨bm, am, hee, g1, b1, a1, r1⟩; rw [HMX.out] at hee; subst hee; have G1 := hid g1; have R1 := hid r1; have B1 : Hid (w0.heap.size ≤ bm ∧ w0.heap.size ≤ am) := ⟨b1, a1⟩; clear g1 r1 b1 a1)
  have o2 := heap_alloc_new w1 (.cells #[.int .i64 bs.length, .map (some bm), .map (some am)] 108)
  have t2 : Tch [] w1 (w1.alloc (.cells #[.int .i64 bs.length, .map (some bm), .map (some am)] 108)) := (Tch.refl [] w1).alloc _
  have s2 : (w1.alloc (.cells #[.int .i64 bs.length, .map (some bm), .map (some am)] 108)).heap.size = w1.heap.size + 1 := by simp
  generalize w1.alloc (.cells #[.int .i64 bs.length, .map (some bm), .map (some am)] 108) = w2 at *
  have T2 := hid (R1.out.tch.trans t2)
  have O2 := hid o2
  have S2 := hid s2
  have TG2 := hid t2
  clear o2 t2 s2 c0
  have c1 := cell_of_row _ _ 0 _ _ _ (T2.out.obj O0.out (by simp))
  simp only [List.getElem?_toArray, List.getElem?_cons_zero] at c1
  have HLB := hid (labelled_any (HS.out.kept (T0.out.tch.trans T2.out) (by simp)) (by omega) (fun B hB => (HW.out B hB).1) (fun B hB => (HW.out B hB).2.2.2))
  go_upto_region 3 with (go_at_call 64; refine HLB.out.mono ?_; rintro e w3 ⟨mb, sz, rfl, m3, hmb, t3⟩; have M3 := hid m3; have T3 := hid t3; have B3 : Hid (w2.heap.size ≤ mb) := hmb; clear m3 t3 hmb)
  clear c1 HLB
  have c1 := cell_of_row _ _ 0 _ _ _ ((T2.out.trans T3.out).obj O0.out (by simp))
  simp only [List.getElem?_toArray, List.getElem?_cons_zero] at c1
  have OF : Hid (OfS (fun _ => False) bs w w3 w1.heap.size bm am mb w3.heap.size 0 nilL) := by
    have q1 := (G1.out 0).b.lt
    have q2 := (G1.out 0).a.lt
    have q3 := M3.out.lt
    have q4 := R1.out.size
    have q5 := T3.out.size
    have q6 := S0.out
    have q7 := S2.out
    have q8 := B1.out
    have q9 := B3.out
    exact ⟨gs_szo (gs_new (w1 := w1) G1.out (by omega) (by omega) (T0.out.trans R1.out) (TG2.out.trans T3.out) (by omega) (Nat.le_refl _)), ⟨sz, M3.out⟩, T3.out.obj O2.out (by simp), (T2.out.trans T3.out).obj O1.out (by simp), by omega⟩
  clear G1 R1 B1 T2 O2 S2 TG2 M3 T3 B3 HMX O0 O1 S0
  generalize w1.heap.size = gb at *
  generalize w3.heap.size = lo at *
  have HLT := hid HS.out.lt
  go_wp2_with fail
  clear c1
  go_loopw [5, 6, 8, 9, 10, 20] (fun _ _ _ _ _ vi wr => ∃ k : Nat, vi = .int .i64 k ∧ k ≤ bs.length ∧ Hid (OfS (fun _ => False) bs w wr gb bm am mb lo (2 * k) (gofK (posN (labsOf bs)) bs k))) (fun _ _ _ _ _ vi _ => bs.length - (intOf vi).toNat)
  case atStart => exact ⟨0, rfl, Nat.zero_le _, OF.out⟩
  case round =>
    obtain ⟨k, rfl, hk, HK⟩ := hrel
    clear OF
    by_cases hlk : k < bs.length
    · obtain ⟨B, hB⟩ : ∃ B, bs[k]? = some B := ⟨bs[k], by simp [hlk]⟩
      have mB := List.mem_of_getElem? hB
      have sx := HS.out.kept HK.out.lo.2 (by simp)
      obtain ⟨b3, o3, d3, hv⟩ := sx.ptr (Nat.zero_lt_of_lt hlk)
      cases hv
      have HSU := hid (gofK_succ (posN (labsOf bs)) hB)
      have wB := HW.out B mB
      obtain ⟨⟨pa, pn, pc, hpv⟩, ia, im, ic, hiv⟩ := wB.2.2.2
      obtain ⟨lab, pv, phs, iv, ins, e, ra, y, m⟩ := B
      obtain ⟨y0, y1, y2, y3, y4, y5, y6⟩ := blk_at sx k hB
      dsimp only at y0 y1 y2 y3 y4 y5 y6 HSU wB hpv hiv
      subst hpv hiv
      have lt3 : b3 < wr.heap.size := cell_lt y0
      have HWB := hid wB
      clear sx hB mB wB
      go_upto_region 6 with fail
      have o5 := heap_alloc_new wr (.cells #[.int .i64 lab, .slice pa pn pc, .slice ia im ic, .int .u8 e, .int .i64 ra, .int .i64 y, .int .i64 m] 43)
      have OF5 := hid (HK.out.tch ((Tch.refl [] wr).alloc (.cells #[.int .i64 lab, .slice pa pn pc, .slice ia im ic, .int .u8 e, .int .i64 ra, .int .i64 y, .int .i64 m] 43)))
      clear y0 y1 y2 y3 y4 y5 y6 HK lt3
      generalize wr.alloc (.cells #[.int .i64 lab, .slice pa pn pc, .slice ia im ic, .int .u8 e, .int .i64 ra, .int .i64 y, .int .i64 m] 43) = w5 at *
      have c3 := cell_of_row _ _ 3 _ _ _ o5
      have c4 := cell_of_row _ _ 4 _ _ _ o5
      have c5 := cell_of_row _ _ 5 _ _ _ o5
      have c6 := cell_of_row _ _ 6 _ _ _ o5
      simp only [List.getElem?_toArray, List.getElem?_cons_zero, List.getElem?_cons_succ] at c3 c4 c5 c6
      have HLL := hid (llabels e ra y m w5)
      obtain ⟨ls, hls⟩ : ∃ ls, llabs e y m = ls := ⟨_, rfl⟩
      have HLN : Hid (ls.length ≤ 2) := by rw [← hls]; exact llabs_len e y m
      have HLW : Hid (∀ l ∈ ls, wfi l) := fun l hl => by
        rw [← hls] at hl
        rcases llabs_mem hl with e | e
        · rw [e]; exact HWB.out.2.1
        · rw [e]; exact HWB.out.2.2.1
      rw [hls] at HSU HLL
      go_upto_region 7 with (go_at_call 65; refine HLL.out.mono ?_; rintro e6 w6 ⟨v6, rfl, s6, g6, b6⟩; obtain ⟨la6, lc6, hv6⟩ := seg_slice s6; rw [List.length_map] at hv6; subst hv6; have S6 := hid s6; have G6 := hid g6; have B6 := hid b6; clear s6 g6 b6)
      clear c3 c4 c5 c6 o5 HLL hls HWB
      have OF6 := hid (OF5.out.z G6.out.tch)
      have HZ : Hid (∀ b ∈ blks (.slice la6 ls.length lc6), w5.heap.size ≤ b ∧ b < w6.heap.size) := fun b hb => ⟨B6.out b hb, S6.out.lt b hb⟩
      have HLO : Hid (lo ≤ w5.heap.size) := OF5.out.lo.1
      clear G6 B6 OF5
      generalize w5.heap.size = z5 at *
      generalize hz6 : w6.heap.size = z6 at OF6 HZ ⊢
      have HZ6 : Hid (z6 ≤ w6.heap.size) := by show _ ≤ _; omega
      clear hz6
      go_loopw [8, 9, 10, 29] (fun _ _ _ vi wr => ∃ j : Nat, vi = .int .i64 j ∧ j ≤ ls.length ∧ Hid (OfS (fun k => z5 ≤ k ∧ k < z6) bs w wr gb bm am mb lo (2 * k + j) (joL (posN (labsOf bs)) k (gofK (posN (labsOf bs)) bs k) (ls.take j)) ∧ Seg wr 3 (.slice la6 ls.length lc6) (ls.map (Value.int .i64)) ∧ z6 ≤ wr.heap.size)) (fun _ _ _ vi _ => ls.length - (intOf vi).toNat)
      case atStart => exact ⟨0, rfl, Nat.zero_le _, OF6.out, S6.out, HZ6.out⟩
      case round =>
        obtain ⟨j, rfl, hj, HJ⟩ := hrel
        rename World => wj
        clear OF6 S6 HZ6
        have hln : ls.length ≤ 2 := HLN.out
        by_cases hlj : j < ls.length
        · obtain ⟨l, hx⟩ : ∃ l, ls[j]? = some l := ⟨ls[j], by simp [hlj]⟩
          have wl := HLW.out l (List.mem_of_getElem? hx)
          have HTK : Hid (ls.take (j + 1) = ls.take j ++ [l]) := by show _ = _; rw [List.take_add_one, hx]; rfl
          obtain ⟨b7, o7, c7, hv7, h7⟩ := HJ.out.2.1.at (by simp; omega)
          rw [List.length_map] at hv7
          cases hv7
          have cl := h7 j (.int .i64 l) (by rw [List.getElem?_map, hx]; rfl)
          have ll := cell_lt cl
          simp only at ll
          obtain ⟨sz, hmn⟩ := HJ.out.1.m
          have hlo := hmn.lookOk wl
          clear hmn h7 hx
          cases hp : posN (labsOf bs) l with
          | none =>
            rw [hp] at hlo
            simp only [Option.getD_none, Option.isSome_none] at hlo
            have NX : Hid (joL (posN (labsOf bs)) k (gofK (posN (labsOf bs)) bs k) (ls.take (j + 1)) = joL (posN (labsOf bs)) k (gofK (posN (labsOf bs)) bs k) (ls.take j)) := by show _ = _; rw [HTK.out, joL_snoc, hp]
            clear hp
            go_wp2_with fail
            go_roundw
            case rel => exact ⟨j + 1, by go_num, by omega, by rw [NX.out]; exact ⟨HJ.out.1.s.mono (by omega), HJ.out.1.m, HJ.out.1.g, HJ.out.1.r, HJ.out.1.q⟩, HJ.out.2⟩
            case measure => simp [intOf]; omega
          | some q =>
            rw [hp] at hlo
            simp only [Option.getD_some, Option.isSome_some] at hlo
            have hq : 0 ≤ q ∧ q < bs.length := by
              obtain ⟨i, rfl, _, hi⟩ := posN_inv hp
              simp [labsOf] at hi; omega
            have NX : Hid (joL (posN (labsOf bs)) k (gofK (posN (labsOf bs)) bs k) (ls.take (j + 1)) = addE (joL (posN (labsOf bs)) k (gofK (posN (labsOf bs)) bs k) (ls.take j)) k q) := by show _ = _; rw [HTK.out, joL_snoc, hp]
            have HJN := hid (join_gsz HJ.out.1.s (fun k hk => ⟨by have := HJ.out.2.2; omega, by have := HLO.out; omega⟩) (by have := HLN.out; omega) (by omega) k q (by omega) hq)
            have og := HJ.out.1.g
            have z0 := cell_of_row _ _ 0 _ _ _ og
            have z1 := cell_of_row _ _ 1 _ _ _ og
            have z2 := cell_of_row _ _ 2 _ _ _ og
            simp only [List.getElem?_toArray, List.getElem?_cons_zero, List.getElem?_cons_succ] at z0 z1 z2
            have lgb := lt_of_obj og
            clear hp og hq
            go_wp2_with (go_at_call 66; refine HJN.out.mono ?_; rintro e8 w8 ⟨rfl, s8, j8, k8⟩; have OF8 := hid (HJ.out.1.join s8 j8); have S8 := hid (HJ.out.2.1.kz k8 HZ.out); have Z8 : Hid (z6 ≤ w8.heap.size) := Nat.le_trans HJ.out.2.2 j8.size; clear s8 j8 k8)
            go_roundw
            case rel => exact ⟨j + 1, by go_num, by omega, by rw [NX.out]; exact OF8.out, S8.out, Z8.out⟩
            case measure => simp [intOf]; omega
        · obtain rfl : j = ls.length := by omega
          have NX : Hid (OfS (fun _ => False) bs w wj gb bm am mb lo (2 * (k + 1)) (gofK (posN (labsOf bs)) bs (k + 1))) := by
            have h := HJ.out.1
            rw [List.take_length] at h
            rw [HSU.out]
            exact h.no (by have := HLN.out; omega)
          clear HJ
          go_wp2_with fail
          go_roundw
          case rel => exact ⟨k + 1, by go_num, by omega, NX.out⟩
          case measure => simp [intOf]; omega
    · obtain rfl : k = bs.length := by omega
      have hgb := HK.out.g
      have hrb := HK.out.r
      have z0 := cell_of_row _ _ 0 _ _ _ hgb
      have z1 := cell_of_row _ _ 1 _ _ _ hgb
      have z2 := cell_of_row _ _ 2 _ _ _ hgb
      have y0 := cell_of_row _ _ 0 _ _ _ hrb
      have y1 := cell_of_row _ _ 1 _ _ _ hrb
      have y2 := cell_of_row _ _ 2 _ _ _ hrb
      have yf : ∀ k, wr.frozen? ⟨w.heap.size + 1, k, none⟩ = false := fun k => frozen_of_row _ _ _ _ _ hrb
      simp only [List.getElem?_toArray, List.getElem?_cons_zero, List.getElem?_cons_succ] at z0 z1 z2 y0 y1 y2
      have RE := hid hrb
      have lgb := lt_of_obj hgb
      have LE : w.heap.size + 1 < gb := by have := HK.out.q; omega
      clear hgb hrb
      go_wp2_with fail
      have o1 : (wr.setCell ⟨w.heap.size + 1, 0, none⟩ (.int .i64 bs.length)).heap[w.heap.size + 1]? = some (.cells #[.int .i64 bs.length, .map none, .map none] 108 (0, 0)) := heap_setCell_same _ _ _ _ _ _ RE.out
      have o2 : ((wr.setCell ⟨w.heap.size + 1, 0, none⟩ (.int .i64 bs.length)).setCell ⟨w.heap.size + 1, 1, none⟩ (.map (some bm))).heap[w.heap.size + 1]? = some (.cells #[.int .i64 bs.length, .map (some bm), .map none] 108 (0, 0)) := heap_setCell_same _ _ _ _ _ _ o1
      have o3 : (((wr.setCell ⟨w.heap.size + 1, 0, none⟩ (.int .i64 bs.length)).setCell ⟨w.heap.size + 1, 1, none⟩ (.map (some bm))).setCell ⟨w.heap.size + 1, 2, none⟩ (.map (some am))).heap[w.heap.size + 1]? = some (.cells #[.int .i64 bs.length, .map (some bm), .map (some am)] 108 (0, 0)) := heap_setCell_same _ _ _ _ _ _ o2
      have t3 : Tch [w.heap.size + 1] wr (((wr.setCell ⟨w.heap.size + 1, 0, none⟩ (.int .i64 bs.length)).setCell ⟨w.heap.size + 1, 1, none⟩ (.map (some bm))).setCell ⟨w.heap.size + 1, 2, none⟩ (.map (some am))) := (((Tch.refl _ wr).setCell (.inl (by simp)) _).setCell (.inl (by simp)) _).setCell (.inl (by simp)) _
      generalize ((wr.setCell ⟨w.heap.size + 1, 0, none⟩ (.int .i64 bs.length)).setCell ⟨w.heap.size + 1, 1, none⟩ (.map (some bm))).setCell ⟨w.heap.size + 1, 2, none⟩ (.map (some am)) = we at o3 t3 ⊢
      refine bodyPost_ret (v := .agg #[.int .i64 bs.length, .map (some bm), .map (some am)]) (results_cell_row Tryd.results42 _ _ (w.heap.size + 1) 108 _ (0, 0) _ rfl o3 Tryd.underlying108 rfl (by kernel_rfl)) rfl ?_
      have hq := HK.out.q
      obtain ⟨K, vF, vA, A, h0, h1, h2, h4, h5, h6, h7, h8, h9, h10⟩ := HK.out.s.gs
      have t4 : Tch [] w we := h4.trans3 t3 (fun k hk => by simp at hk; omega)
      exact ⟨lo, bm, am, rfl, ⟨K, vF, vA, A, by omega, h1.kept t3 (by simp; omega) (by simp; omega) (fun x k hk h => by simp at h; have := (h1.fo x k hk).1; omega) (fun x k hk h => by simp at h; have := (h1.go x k hk).1; omega), h2, t4, h5, h6, h7, Nat.le_trans h8 t3.size, h9, h10⟩, t4⟩
end Go.Proofs.YtkcblhaldahooaaDoor

