/- BagGroups: the walk. -/
import Derived.Test.YtfokekciemofiaaGrp
import Derived.Test.YtfokekciemofiaaAwake
import Derived.Deep.RegionWith
import Derived.Deep.QuietTactic
import Derived.BigQuiet
set_option linter.unusedSimpArgs false
set_option linter.unusedVariables false
namespace Go.Proofs.Ytfokekciemofiaa
open Go.RowKit

/-- An array of 20 numbers. -/
def arr20 (f : Nat → Int) : Array Value := ((List.range 20).map fun i => Value.int .i64 (f i)).toArray
theorem arr20_size (f : Nat → Int) : (arr20 f).size = 20 := by simp [arr20]
theorem arr20_get (f : Nat → Int) (i : Nat) (h : i < 20) : (arr20 f)[i]? = some (.int .i64 (f i)) := by simp [arr20, h]
theorem arr20_cong {f g : Nat → Int} (h : ∀ i, i < 20 → f i = g i) : arr20 f = arr20 g := by
  unfold arr20
  congr 1
  apply List.map_congr_left
  intro i hi
  rw [h i (by simpa using hi)]
theorem arr20_set (f : Nat → Int) (i : Nat) (v : Int) : (arr20 f).setIfInBounds i (.int .i64 v) = arr20 (fun j => if j = i then v else f j) := by
  apply Array.ext_getElem?
  intro j
  rw [Array.getElem?_setIfInBounds]
  by_cases hj : j < 20
  · by_cases e : i = j
    · subst e; rw [if_pos rfl, arr20_size, if_pos hj, arr20_get _ i hj, if_pos rfl]
    · rw [if_neg e, arr20_get _ j hj, arr20_get _ j hj, if_neg (fun h => e h.symm)]
  · have n1 : ∀ g : Nat → Int, (arr20 g)[j]? = none := fun g => Array.getElem?_eq_none (by rw [arr20_size]; omega)
    rw [n1, n1]
    by_cases e : i = j
    · rw [if_pos e, arr20_size]; simp; omega
    · rw [if_neg e]
/-- The array lies at block ob. -/
def OfRow (w : World) (ob : Nat) (f : Nat → Int) : Prop := w.heap[ob]? = some (.cells (arr20 f) 64 (0, 0))
theorem OfRow.cell {w : World} {ob : Nat} {f : Nat → Int} (h : OfRow w ob f) (i : Nat) (hi : i < 20) : w.cell? ⟨ob, i, none⟩ = some (.int .i64 (f i)) := by
  rw [cell_of_row w ob i _ _ _ h, arr20_get f i hi]
theorem OfRow.fro {w : World} {ob : Nat} {f : Nat → Int} (h : OfRow w ob f) (i : Nat) : w.frozen? ⟨ob, i, none⟩ = false := frozen_of_row w ob i _ _ h
theorem OfRow.set {w : World} {ob : Nat} {f : Nat → Int} (h : OfRow w ob f) (i : Nat) (v : Int) : OfRow (w.setCell ⟨ob, i, none⟩ (.int .i64 v)) ob (fun j => if j = i then v else f j) := by
  unfold OfRow
  rw [heap_setCell_same w ob i _ _ _ h, arr20_set]
theorem OfRow.cong {w : World} {ob : Nat} {f g : Nat → Int} (h : OfRow w ob f) (e : ∀ i, i < 20 → f i = g i) : OfRow w ob g := by unfold OfRow; rw [← arr20_cong e]; exact h
theorem OfRow.kept {w w' : World} {ob : Nat} {f : Nat → Int} {S : List Nat} (h : OfRow w ob f) (t : Tch S w w') (hn : ¬ ob ∈ S) : OfRow w' ob f := t.obj h hn

theorem GAt.kept {w w' : World} {gb : Nat} {mo : Option Nat} {sz : Nat} {p : Int → Option Int} {S : List Nat} (h : GAt w gb mo sz p) (t : Tch S w w') (hg : ¬ gb ∈ S) (hm : ∀ b ∈ mo.toList, ¬ b ∈ S) : GAt w' gb mo sz p := by
  obtain ⟨h1, h2⟩ := h
  refine ⟨t.obj h1 hg, ?_⟩
  rcases h2 with h | ⟨mb, rfl, h⟩
  · exact .inl h
  · exact .inr ⟨mb, rfl, h.kept t (hm mb (by simp))⟩
theorem GAt.ne {w : World} {gb : Nat} {mo : Option Nat} {sz : Nat} {p : Int → Option Int} (h : GAt w gb mo sz p) {ob : Nat} {f : Nat → Int} (hr : OfRow w ob f) : ∀ b ∈ mo.toList, ¬ b = ob := by
  obtain ⟨h1, h2⟩ := h
  rcases h2 with ⟨rfl, _⟩ | ⟨mb, rfl, h⟩
  · simp
  · intro b hb e
    simp at hb
    subst hb
    subst e
    obtain ⟨es, c, ho⟩ := h.obj
    rw [show w.heap[b]? = _ from hr] at ho
    cases ho
/-- Two groups are one, in the row. -/
def joinR (ρ : Int → Int) (a b : Int) : Int → Int := fun i => if ρ i = a ∨ ρ i = b then min a b else ρ i
theorem join_any (gb : Nat) (mo : Option Nat) (sz : Nat) (p : Int → Option Int) (ρ : Int → Int) (x y : Int) (w : World) (h : GAt w gb mo sz p) (hi : GInv p ρ) (x0 : 0 ≤ x) (x1 : x < 20) (y0 : 0 ≤ y) (y1 : y < 20) (hs : sz < maxLen) :
    Calls Try.prog 33 #[.pointer (some ⟨gb, 0, none⟩), .int .i64 x, .int .i64 y] w fun e w' => e = .returned (.bool (ρ x != ρ y)) ∧ ∃ sz', sz' ≤ sz + 1 ∧ Joined gb mo sz' (joinR ρ (ρ x) (ρ y)) w w' := by
  by_cases he : ρ x = ρ y
  · refine (join_no gb mo sz p ρ x y w h hi x0 x1 y0 y1 hs he).mono ?_
    rintro e w' ⟨rfl, p2, k1, k2, k3⟩
    have e1 : joinR ρ (ρ x) (ρ y) = ρ := by funext i; simp only [joinR]; split <;> omega
    rw [e1]
    exact ⟨by simp [he], sz, by omega, p2, mo, k1, k2, k3.mono (by intro y hy; exact List.mem_cons_of_mem _ hy), fun b hb => .inl hb⟩
  · refine (join_yes gb mo sz p ρ x y w h hi x0 x1 y0 y1 hs he).mono ?_
    rintro e w' ⟨rfl, k⟩
    exact ⟨by simp [he], k⟩

set_option maxRecDepth 100000 in
set_option maxHeartbeats 1000000 in
theorem grp_big (ao : Option Addr) (n cap : Nat) (w : World) (hn : 60 < n) (hm : n ≤ 9223372036854775807) :
    Calls Try.prog 7 #[.slice ao n cap] w fun e w' => e = .returned (.bool true) ∧ Below w.heap.size w w' := by
  have ha := awake w
  go_enter Try.func7, Try.ntmps7
  go_wp2_with (go_at_call 9; refine ha.mono ?_; rintro e w1 ⟨rfl, hb⟩; have HB := hid hb; clear hb)
  go_ret
  exact ⟨rfl, HB.out⟩
/-- Between two acts. -/
def GrpAt (w : World) (gb ob : Nat) (k : Nat) (wr : World) : Prop := ∃ p mo sz ρ, sz ≤ k ∧ GAt wr gb mo sz p ∧ GInv p ρ ∧ OfRow wr ob (fun i => ρ i) ∧ (∀ b ∈ mo.toList, w.heap.size ≤ b) ∧ Below w.heap.size w wr
set_option maxRecDepth 100000 in
set_option maxHeartbeats 4000000 in
theorem grp_small (b off n cap : Nat) (fk fx fy : Nat → Int) (w : World) (hn : n ≤ 60) (hbw : b < w.heap.size)
    (hk : ∀ j, j < n → w.cell? ⟨b, off + j * 3, none⟩ = some (.int .u8 (fk j)) ∧ w.cell? ⟨b, off + j * 3 + 1, none⟩ = some (.int .u8 (fx j)) ∧ w.cell? ⟨b, off + j * 3 + 2, none⟩ = some (.int .u8 (fy j)))
    (hr : ∀ j, j < n → 0 ≤ fk j ∧ fk j < 256 ∧ 0 ≤ fx j ∧ fx j < 256 ∧ 0 ≤ fy j ∧ fy j < 256) :
    Calls Try.prog 7 #[.slice (some ⟨b, off, none⟩) n cap] w fun e w' => e = .returned (.bool true) ∧ Below w.heap.size w w' := by
  have ha := awake w
  have HK := hid hk
  have HR := hid hr
  clear hk hr
  go_enter Try.func7, Try.ntmps7
  go_wp2_with (go_at_call 9; refine ha.mono ?_; rintro e w1 ⟨rfl, hb⟩; have HB := hid hb; clear hb)
  clear ha
  have hz1 : w.heap.size ≤ w1.heap.size := HB.out.size
  obtain ⟨gb, hgb⟩ : ∃ gb, gb = w1.heap.size := ⟨_, rfl⟩
  have st : Hid (OfRow ((w1.alloc (.cells #[.map none] 63)).alloc (.cells (arr20 fun _ => 0) 64)) (w1.heap.size + 1) (fun i => if i < 0 then (i : Int) else 0) ∧ ((w1.alloc (.cells #[.map none] 63)).alloc (.cells (arr20 fun _ => 0) 64)).heap[w1.heap.size]? = some (.cells #[.map none] 63 (0, 0)) ∧ Below w.heap.size w ((w1.alloc (.cells #[.map none] 63)).alloc (.cells (arr20 fun _ => 0) 64))) := by
    refine ⟨?_, (Below.heap_alloc _ _ _ (by simp)).trans (heap_alloc_new w1 _), (HB.out.alloc hz1 _).alloc (by simp; omega) _⟩
    have := heap_alloc_new (w1.alloc (.cells #[.map none] 63)) (.cells (arr20 fun _ => 0) 64)
    simpa [OfRow] using this
  go_loopw [5, 19] (fun _ vi wr => ∃ k : Nat, vi = .int .i64 k ∧ k ≤ 20 ∧ OfRow wr (w1.heap.size + 1) (fun i => if i < k then (i : Int) else 0) ∧ wr.heap[w1.heap.size]? = some (.cells #[.map none] 63 (0, 0)) ∧ Below w.heap.size w wr) (fun _ vi _ => 20 - (intOf vi).toNat)
  case atStart => exact ⟨0, rfl, by decide, st.out⟩
  case round =>
    clear st
    obtain ⟨k, rfl, hk, hrow, hg, hbel⟩ := hrel
    by_cases hlt : k < 20
    · have cc := hrow.cell k hlt
      have ff := hrow.fro k
      have FIN := hid (show OfRow (wr.setCell ⟨w1.heap.size + 1, k, none⟩ (.int .i64 k)) (w1.heap.size + 1) (fun i => if i < k + 1 then (i : Int) else 0) ∧ (wr.setCell ⟨w1.heap.size + 1, k, none⟩ (.int .i64 k)).heap[w1.heap.size]? = some (.cells #[.map none] 63 (0, 0)) ∧ Below w.heap.size w (wr.setCell ⟨w1.heap.size + 1, k, none⟩ (.int .i64 k)) from
        ⟨(hrow.set k k).cong (fun i hi => by by_cases e : i = k <;> by_cases e2 : i < k <;> simp [e, e2] <;> omega), (Below.heap_setCell _ _ _ _ (by simp)).trans hg, hbel.setCell (p := ⟨w1.heap.size + 1, k, none⟩) (by show w.heap.size ≤ w1.heap.size + 1; omega) _⟩)
      clear hrow hg hbel
      go_wp2
      go_roundw
      case rel => exact ⟨k + 1, by go_num, by omega, FIN.out⟩
      case measure => simp [intOf]; omega
    · have hk20 : (k : Int) = 20 := by omega
      have hkk : k = 20 := by omega
      have start : Hid (GrpAt w w1.heap.size (w1.heap.size + 1) 0 wr) := ⟨fun _ => none, none, 0, fun i => i, Nat.le_refl _, ⟨hg, .inl ⟨rfl, rfl⟩⟩, fun x _ _ => ⟨fun _ => rfl, fun y h => by cases h⟩, hrow.cong (fun i hi => by simp [hkk, hi]), by simp, hbel⟩
      clear hrow hg hbel hkk hk hlt
      go_wp2
      clear hk20
      go_loopw [28] (fun vi wr2 => ∃ k : Nat, vi = .int .i64 k ∧ k ≤ n ∧ GrpAt w w1.heap.size (w1.heap.size + 1) k wr2) (fun vi _ => n - (intOf vi).toNat)
      case atStart => exact ⟨0, rfl, Nat.zero_le _, start.out⟩
      case round =>
        clear start
        obtain ⟨j, rfl, hj, hat⟩ := hrel
        by_cases hjn : j < n
        · obtain ⟨p, mo, sz, ρ, hsz, hg, hgi, hrow, hmo, hbel⟩ := hat
          obtain ⟨ck, cx, cy⟩ := HK.out j hjn
          obtain ⟨r1, r2, r3, r4, r5, r6⟩ := HR.out j hjn
          have ck2 := (hbel.cell (p := ⟨b, off + j * 3, none⟩) hbw).trans ck
          have cx2 := (hbel.cell (p := ⟨b, off + j * 3 + 1, none⟩) hbw).trans cx
          have cy2 := (hbel.cell (p := ⟨b, off + j * 3 + 2, none⟩) hbw).trans cy
          generalize fk j = ak at *
          generalize fx j = ax at *
          generalize fy j = ay at *
          obtain ⟨X, hX⟩ : ∃ X : Nat, ax % 20 = (X : Int) := ⟨(ax % 20).toNat, by omega⟩
          obtain ⟨Y, hY⟩ : ∃ Y : Nat, ay % 20 = (Y : Int) := ⟨(ay % 20).toNat, by omega⟩
          have hX20 : X < 20 := by omega
          have hY20 : Y < 20 := by omega
          have ofX := hrow.cell X hX20
          have ofY := hrow.cell Y hY20
          have hob := lt_of_obj hrow
          have HG := hid hg
          have HGI := hid hgi
          have HROW := hid hrow
          have HMO := hid hmo
          have HBEL := hid hbel
          clear ck cx cy hg hgi hrow hmo hbel
          go_wp2_with fail
          go_quiet (fail)
          go_wp2_with fail
          go_quiet (fail)
          go_wp2_with fail
          have tn : ∀ q, Tch [] wr ((wr.alloc (.cells #[.int .u8 ak, .int .u8 ax, .int .u8 ay] 29)).drewN q) := fun q => ((Tch.refl [] wr).alloc _).drewN q
          refine (join_any w1.heap.size mo sz p ρ X Y _ (HG.out.kept (tn _) (by simp) (by simp)) HGI.out (by omega) (by omega) (by omega) (by omega) (by unfold maxLen; omega)).mono ?_
          rintro e w2 ⟨rfl, sz', hsz', p2, mo2, k1, k2, k3, k4⟩
          have hnm : ¬ w1.heap.size + 1 ∈ w1.heap.size :: mo.toList := by
            intro hm
            rcases List.mem_cons.1 hm with h | h
            · omega
            · exact HG.out.ne HROW.out _ h rfl
          have row2 : OfRow w2 (w1.heap.size + 1) (fun i => ρ i) := (HROW.out.kept (tn _) (by simp)).kept k3 hnm
          have tw := (tn _).mono (S' := w1.heap.size :: mo.toList) (by simp) |>.trans k3
          have bel2 := HBEL.out.trans (tw.below HBEL.out.size (by intro y hy; rcases List.mem_cons.1 hy with h | h; omega; exact HMO.out y h))
          have hmo2 : ∀ b ∈ mo2.toList, w.heap.size ≤ b := fun y hy => by
            rcases k4 y hy with h | h
            · exact HMO.out y h
            · exact Nat.le_trans (Nat.le_trans HBEL.out.size (tn _).size) h
          clear tn tw k3 k4 hnm
          have K1 := hid k1
          have K2 := hid k2
          have R2 := hid row2
          have B2 := hid bel2
          have M2 := hid hmo2
          clear k1 k2 row2 bel2 hmo2 HG HGI HROW HMO HBEL ofX ofY
          generalize ρ (X : Int) = va at *
          generalize ρ (Y : Int) = vc at *
          go_wp2
          go_loopw [12, 53] (fun _ vi wr3 => ∃ k : Nat, vi = .int .i64 k ∧ k ≤ 20 ∧ OfRow wr3 (w1.heap.size + 1) (fun i => if i < k then joinR ρ va vc i else ρ i) ∧ Tch [w1.heap.size + 1] w2 wr3) (fun _ vi _ => 20 - (intOf vi).toNat)
          case atStart => exact ⟨0, rfl, by decide, R2.out.cong (fun i hi => by simp), Tch.refl _ _⟩
          case round =>
            obtain ⟨k, rfl, hk, hrow, ht3⟩ := hrel
            by_cases hlt : k < 20
            · have cc := hrow.cell k hlt
              have ff := hrow.fro k
              simp only [Nat.lt_irrefl, if_false] at cc
              have HROW3 := hid hrow
              have HT3 := hid ht3
              clear hrow ht3
              generalize hv : ρ (k : Int) = v at cc
              have HV := hid hv
              clear hv
              have skip : ¬ v = va → ¬ v = vc → Hid (OfRow wr (w1.heap.size + 1) (fun i => if i < k + 1 then joinR ρ va vc i else ρ i)) := fun h1 h2 => HROW3.out.cong (fun i hi => by
                by_cases e : i = k
                · subst e; simp [joinR, HV.out, h1, h2]
                · by_cases e2 : i < k
                  · simp [e2, show i < k + 1 by omega]
                  · simp [e2, show ¬ i < k + 1 by omega])
              have put : v = va ∨ v = vc → ∀ m, m = min va vc → Hid (OfRow (wr.setCell ⟨w1.heap.size + 1, k, none⟩ (.int .i64 m)) (w1.heap.size + 1) (fun i => if i < k + 1 then joinR ρ va vc i else ρ i) ∧ Tch [w1.heap.size + 1] w2 (wr.setCell ⟨w1.heap.size + 1, k, none⟩ (.int .i64 m))) := fun h1 m hm => ⟨(HROW3.out.set k m).cong (fun i hi => by
                by_cases e : i = k
                · subst e; simp only [if_true, Nat.lt_succ_self, joinR, HV.out, h1, hm]
                · by_cases e2 : i < k
                  · simp [e, e2, show i < k + 1 by omega]
                  · simp [e, e2, show ¬ i < k + 1 by omega]), HT3.out.setCell (p := ⟨w1.heap.size + 1, k, none⟩) (.inl (by simp)) _⟩
              have SK := hid skip
              have PU := hid put
              clear skip put
              by_cases h2 : v = va
              · have FIN := PU.out (.inl h2) _ rfl
                clear SK PU
                have h2' : (v == va) = true := by simpa using h2
                have H2 := hid h2
                clear h2
                go_wp2
                first | exact ⟨⟨k + 1, by go_num, by omega, FIN.out⟩, by simp [intOf]; omega⟩ | (go_roundw; case rel => exact ⟨k + 1, by go_num, by omega, FIN.out⟩; case measure => simp [intOf]; omega)
              · by_cases h3 : v = vc
                · have FIN := PU.out (.inr h3) _ rfl
                  clear SK PU
                  have h2' : (v == va) = false := by simpa using h2
                  have h3' : (v == vc) = true := by simpa using h3
                  have H2 := hid h2
                  have H3 := hid h3
                  clear h2 h3
                  go_wp2
                  first | exact ⟨⟨k + 1, by go_num, by omega, FIN.out⟩, by simp [intOf]; omega⟩ | (go_roundw; case rel => exact ⟨k + 1, by go_num, by omega, FIN.out⟩; case measure => simp [intOf]; omega)
                · have FIN := SK.out h2 h3
                  clear SK PU
                  have h2' : (v == va) = false := by simpa using h2
                  have h3' : (v == vc) = false := by simpa using h3
                  have H2 := hid h2
                  have H3 := hid h3
                  clear h2 h3
                  go_wp2
                  first | exact ⟨⟨k + 1, by go_num, by omega, FIN.out, HT3.out⟩, by simp [intOf]; omega⟩ | (go_roundw; case rel => exact ⟨k + 1, by go_num, by omega, FIN.out, HT3.out⟩; case measure => simp [intOf]; omega)
            · have hk20 : (k : Int) = 20 := by omega
              have hkk : k = 20 := by omega
              have hmne : ∀ b ∈ mo2.toList, ¬ b ∈ [w1.heap.size + 1] := fun y hy => by have := K1.out.ne R2.out y hy; simpa using this
              have start4 : Hid (GAt wr w1.heap.size mo2 sz' p2 ∧ OfRow wr (w1.heap.size + 1) (fun i => joinR ρ va vc i) ∧ Below w.heap.size w wr) := ⟨K1.out.kept ht3 (by simp) hmne, hrow.cong (fun i hi => by simp [hkk, hi]), B2.out.trans (ht3.below B2.out.size (by simp; omega))⟩
              clear hrow ht3 hmne hkk hk hlt
              generalize joinR ρ va vc = ρ' at *
              go_wp2
              clear hk20
              go_loopw [13, 74] (fun _ vi wr4 => ∃ (k : Nat) (p4 : Int → Option Int), vi = .int .i64 k ∧ k ≤ 20 ∧ GAt wr4 w1.heap.size mo2 sz' p4 ∧ GInv p4 ρ' ∧ OfRow wr4 (w1.heap.size + 1) (fun i => ρ' i) ∧ Below w.heap.size w wr4) (fun _ vi _ => 20 - (intOf vi).toNat)
              case atStart => exact ⟨0, p2, rfl, by decide, start4.out.1, K2.out, start4.out.2⟩
              case round =>
                clear start4
                obtain ⟨k, p4, rfl, hk, hg4, hgi4, hrow4, hbel4⟩ := hrel
                by_cases hlt : k < 20
                · have cc := hrow4.cell k hlt
                  have hne4 := hg4.ne hrow4
                  have hf := find_any w1.heap.size mo2 sz' p4 ρ' k wr.drew (hg4.kept ((Tch.refl [] wr).drew) (by simp) (by simp)) hgi4 (by omega) (by omega) (by unfold maxLen; omega)
                  have hf2 : Calls Try.prog 34 #[.pointer (some ⟨w1.heap.size, 0, none⟩), .int .i64 k] wr.drew fun e w5 => e = .returned (.int .i64 (ρ' k)) ∧ w5.cell? ⟨w1.heap.size + 1, k, none⟩ = some (.int .i64 (ρ' k)) ∧ Hid (∃ p5, GAt w5 w1.heap.size mo2 sz' p5 ∧ GInv p5 ρ' ∧ OfRow w5 (w1.heap.size + 1) (fun i => ρ' i) ∧ Below w.heap.size w w5) := by
                    refine hf.mono ?_
                    rintro e w5 ⟨rfl, p5, l1, l2, l3⟩
                    have r5 : OfRow w5 (w1.heap.size + 1) (fun i => ρ' i) := (hrow4.kept ((Tch.refl [] wr).drew) (by simp)).kept l3 (fun hm => hne4 _ hm rfl)
                    exact ⟨rfl, r5.cell k hlt, p5, l1, l2, r5, hbel4.trans ((show Tch mo2.toList wr w5 from ((Tch.refl _ wr).drew).trans l3).below hbel4.size M2.out)⟩
                  clear hf hg4 hgi4 hrow4 hbel4 hne4
                  generalize ρ' (k : Int) = rv at cc hf2
                  go_wp2
                  go_region_with (go_at_call 34; refine hf2.mono ?_; rintro e w5 ⟨rfl, c5, FIN⟩)
                  all_goals
                    go_wp2
                    go_roundw
                    case rel => exact ⟨k + 1, FIN.out.choose, by go_num, by omega, FIN.out.choose_spec⟩
                    case measure => simp [intOf]; omega
                · have FIN : Hid (GrpAt w w1.heap.size (w1.heap.size + 1) (j + 1) wr) := ⟨p4, mo2, sz', ρ', by omega, hg4, hgi4, hrow4, M2.out, hbel4⟩
                  clear hg4 hgi4 hrow4 hbel4
                  go_wp2
                  go_roundw
                  case rel => exact ⟨j + 1, by go_num, by omega, FIN.out⟩
                  case measure => simp [intOf]; omega
        · obtain ⟨_, _, _, _, _, _, _, _, _, hbel⟩ := hat
          have HB2 := hid hbel
          clear hbel
          go_wp2
          go_ret
          exact ⟨rfl, HB2.out⟩
set_option maxRecDepth 100000 in
set_option maxHeartbeats 2000000 in
theorem grp_none (ao : Option Addr) (cap : Nat) (w : World) :
    Calls Try.prog 7 #[.slice ao 0 cap] w fun e w' => e = .returned (.bool true) ∧ Below w.heap.size w w' := by
  have ha := awake w
  go_enter Try.func7, Try.ntmps7
  go_wp2_with (go_at_call 9; refine ha.mono ?_; rintro e w1 ⟨rfl, hb⟩; have HB := hid hb; clear hb)
  clear ha
  have hz1 : w.heap.size ≤ w1.heap.size := HB.out.size
  have st : Hid (OfRow ((w1.alloc (.cells #[.map none] 63)).alloc (.cells (arr20 fun _ => 0) 64)) (w1.heap.size + 1) (fun i => 0) ∧ Below w.heap.size w ((w1.alloc (.cells #[.map none] 63)).alloc (.cells (arr20 fun _ => 0) 64))) := by
    refine ⟨?_, (HB.out.alloc hz1 _).alloc (by simp; omega) _⟩
    have := heap_alloc_new (w1.alloc (.cells #[.map none] 63)) (.cells (arr20 fun _ => 0) 64)
    simpa [OfRow] using this
  go_loopw [5, 19] (fun _ vi wr => ∃ k : Nat, vi = .int .i64 k ∧ k ≤ 20 ∧ ∃ f, OfRow wr (w1.heap.size + 1) f ∧ Below w.heap.size w wr) (fun _ vi _ => 20 - (intOf vi).toNat)
  case atStart => exact ⟨0, rfl, by decide, _, st.out⟩
  case round =>
    clear st
    obtain ⟨k, rfl, hk, f, hrow, hbel⟩ := hrel
    by_cases hlt : k < 20
    · have cc := hrow.cell k hlt
      have ff := hrow.fro k
      have FIN := hid (show ∃ f, OfRow (wr.setCell ⟨w1.heap.size + 1, k, none⟩ (.int .i64 k)) (w1.heap.size + 1) f ∧ Below w.heap.size w (wr.setCell ⟨w1.heap.size + 1, k, none⟩ (.int .i64 k)) from
        ⟨_, hrow.set k k, hbel.setCell (p := ⟨w1.heap.size + 1, k, none⟩) (by show w.heap.size ≤ w1.heap.size + 1; omega) _⟩)
      clear hrow hbel
      go_wp2
      go_roundw
      case rel => exact ⟨k + 1, by go_num, by omega, FIN.out⟩
      case measure => simp [intOf]; omega
    · have HB2 := hid hbel
      clear hrow hbel
      go_wp2
      refine wp_loop_rounds 1 ?_
      rw [rounds_succ]
      go_wp2
      go_ret
      exact ⟨rfl, HB2.out⟩
end Go.Proofs.Ytfokekciemofiaa
