/- What a call of slices.Delete of one item, and of Drop of a set, comes to. -/
import Derived.Test.YtfokekciemofiaaSetB
set_option linter.unusedSimpArgs false
set_option linter.unusedVariables false
namespace Go.Proofs.Ytfokekciemofiaa
open Go.RowKit

set_option maxRecDepth 100000 in
set_option maxHeartbeats 4000000 in
theorem delete_B (b off cap : Nat) (xs ys : List Value) (x : Value) (w : World) (hseg : Seg w 5 (.slice (some ⟨b, off, none⟩) (xs.length + 1 + ys.length) cap) (xs ++ x :: ys)) (hone : ∀ u ∈ ys, u.oneCell' = true) :
    Calls Try.prog 73 #[.slice (some ⟨b, off, none⟩) (xs.length + 1 + ys.length) cap, .int .i64 xs.length, .int .i64 ((xs.length : Int) + 1)] w fun e w' => e = .returned (.slice (some ⟨b, off, none⟩) (xs.length + ys.length) cap) ∧ Seg w' 5 (.slice (some ⟨b, off, none⟩) (xs.length + ys.length) cap) (xs ++ ys) ∧ Tch [b] w w' := by
  obtain ⟨hl0, hc, hsp, hfr, hle, hml, cur, hcur, hsz⟩ := hseg.cell
  obtain ⟨i0, hi0, hz0, hzs, hzb⟩ := info_parts infoB
  have hll : (xs ++ x :: ys).length = xs.length + 1 + ys.length := by simp; omega
  rw [hll] at hle
  unfold maxLen at hml
  obtain ⟨i, hi⟩ : ∃ i, i = xs.length := ⟨_, rfl⟩
  obtain ⟨d, hd⟩ : ∃ d, d = ys.length := ⟨_, rfl⟩
  obtain ⟨c1, k1, k2, k3⟩ := setCells_heap b 5 ys (off + i) w.drew cur hcur (by omega)
  obtain ⟨W1, hW1⟩ : ∃ W1, W1 = w.drew.setCells b (off + i) ys := ⟨_, rfl⟩
  have t1 : Tch [b] w W1 := by rw [hW1]; exact Tch.setCells (.inl (by simp)) _ _ _ ((Tch.refl _ w).drew)
  rw [← hW1] at k1
  obtain ⟨c2, m1, m2, m3⟩ := setCells_heap b 5 (List.replicate 1 (.int .u8 0)) (off + (i + d)) W1 c1 k1 (by simp; omega)
  obtain ⟨W2, hW2⟩ : ∃ W2, W2 = W1.setCells b (off + (i + d)) (List.replicate 1 (.int .u8 0)) := ⟨_, rfl⟩
  have t2 : Tch [b] W1 W2 := by rw [hW2]; exact Tch.setCells (.inl (by simp)) _ _ _ (Tch.refl _ _)
  rw [← hW2] at m1
  have g5 : ∀ j, j < (xs ++ x :: ys).length → cur[off + j]? = (xs ++ x :: ys)[j]? := by
    rcases hseg with ⟨h, _⟩ | ⟨b', off', cap', cur', g0, g1, _, _, _, g5⟩
    · cases h
    · rw [hll] at g0; cases g0; rw [g1] at hcur; cases hcur; exact g5
  have FIN := (show Seg W2 5 (.slice (some ⟨b, off, none⟩) (xs.length + ys.length) cap) (xs ++ ys) ∧ Tch [b] w W2 from by
    refine ⟨.inr ⟨b, off, cap, c2, by simp, m1, by simp; omega, by unfold maxLen; omega, by omega, fun j hj => ?_⟩, t1.trans t2⟩
    simp only [List.length_append] at hj
    rw [m3, if_neg (by simp; omega), k3]
    by_cases h : j < xs.length
    · rw [if_neg (by omega), g5 j (by simp; omega), List.getElem?_append_left h, List.getElem?_append_left h]
    · rw [if_pos (by omega), List.getElem?_append_right (by omega)]
      congr 1; omega)
  obtain ⟨A, hA, hnews⟩ : ∃ A : Addr, (if cap = i + 1 then some (⟨b, off, none⟩ : Addr) else some ⟨b, off + (i + 1), none⟩) = some A ∧ ∀ j u, ys[j]? = some u → w.drew.cell? (A.add j) = some u := by
    by_cases h : cap = i + 1
    · refine ⟨⟨b, off, none⟩, by simp [h], fun j u hu => ?_⟩
      have h0 : ys = [] := List.eq_nil_of_length_eq_zero (by omega)
      subst h0; simp at hu
    · refine ⟨⟨b, off + (i + 1), none⟩, by simp [h], fun j u hu => ?_⟩
      rw [Addr.add_lit, show off + (i + 1) + j = off + (i + 1 + j) by omega]
      refine hc (i + 1 + j) u ?_
      rw [List.getElem?_append_right (by omega), show i + 1 + j - xs.length = j + 1 by omega]; simpa using hu
  have hap : ∀ ty, (Builtin.append_ #[47, 47] ty #[.slice (some ⟨b, off, none⟩) i cap, .slice (some A) d (cap - (i + 1))]).run Try.prog w.drew = .ok (.slice (some ⟨b, off, none⟩) (i + d) cap) W1 := fun ty => by
    have hsrc : Src Try.prog i0.size 47 (.slice (some A) d (cap - (i + 1))) d ys w.drew := Src.ofSlice w.drew Try.underlying47 A d (cap - (i + 1)) ys (by rw [hzs, hd, Nat.mul_one]) hnews hone
    have := run_append_room_src (P := Try.prog) w.drew 47 47 ty 5 i0 Try.underlying47 hi0 b off i cap _ d ys hsrc (by omega)
      (fun j hj => by rw [hzs, Nat.mul_one, Nat.add_assoc]; exact hsp _ (by omega)) (fun j hj => hfr _)
    rw [hzs, Nat.mul_one, ← hW1] at this
    exact this
  have hcr : ∀ ty c, (Builtin.clear_ #[47] ty #[.slice (some ⟨b, off + (i + d), none⟩) 1 c]).run Try.prog W1 = .ok (.tuple #[]) W2 := fun ty c => by
    rw [hW2]
    exact Lib.run_clear_slice W1 47 5 ty (.int .u8 0) Try.underlying47 Try.zeroValue5 rfl rfl b (off + (i + d)) 1 c (by decide)
      (fun j hj => by rw [cell_of_row W1 b _ _ _ _ k1, Array.getElem?_eq_getElem (by omega)]; rfl) (fun j hj => frozen_of_row W1 b _ _ _ k1)
  rw [← hi, ← hd] at FIN ⊢
  have HF : Hid _ := FIN
  have hz1 : ¬ ((i : Int) = (i : Int) + 1) := by omega
  have hic : i ≤ cap := by omega
  have hwr : IntKind.i64.wrap ((i : Int) + 1) = (i : Int) + 1 := by rw [IntKind.wrap_i64]; omega
  have hp0 : (0 : Int) ≤ (i : Int) + 1 := by omega
  have hp1 : (i : Int) + 1 ≤ (i : Int) + 1 + (d : Int) := by omega
  have hp2 : ((i : Int) + 1).toNat = i + 1 := by omega
  have hp3 : ¬ cap = i + d := by omega
  have hp4 : i + 1 + d ≤ cap := by omega
  have hp5 : i + 1 + d - (i + d) = 1 := by omega
  have hp6 : i + 1 + d - (i + 1) = d := by omega
  clear hc hsp hfr hcur k1 k2 k3 m1 m2 m3 t1 t2 FIN hseg hone g5 hnews hW1 hW2 hll hl0 hi0 hz0 hzs hzb hi hd hle hsz
  go_enter Try.func73, Try.ntmps73
  go_wp2_with fail
  go_region_law (refine step_append_to rfl _ _ 47 47 rfl (by simp [Act.eval, Act.put]) (by simp [Act.eval, Act.put]) (hap _) ?_)
  go_wp2_with (at_builtin; refine wpList_clear_to _ rfl _ 47 rfl rfl (hcr _ _) ?_)
  go_ret
  exact ⟨rfl, HF.out⟩
set_option maxHeartbeats 1000000 in
theorem drop_no_B (sb : Nat) (v : Value) (l : List (Int)) (t : Int) (w : World) (h : SetAtB w sb v l) (hr : Rise ltB l) (hn : l.length < 4611686018427387904) (ht : hasB t l = false) :
    Calls Try.prog 40 #[.pointer (some ⟨sb, 0, none⟩), .int .u8 (t)] w fun e w' => e = .returned (.bool false) ∧ w = w' := by
  obtain ⟨h1, h2, h3⟩ := h
  have c1 := cell_of_row w sb 0 _ _ _ h1
  simp at c1
  have hb := bs_B v l t w h2 hr hn
  rw [ht] at hb
  clear h1 h2 h3
  go_enter Try.func40, Try.ntmps40
  go_wp2_with (go_at_call 72; refine hb.mono ?_; rintro e w' ⟨rfl, rfl⟩)
  go_ret
  exact ⟨rfl, rfl⟩
/-- Without t. -/
def withoutB (l : List (Int)) (t : Int) : List (Int) := l.take (cnt ltB t l) ++ l.drop (cnt ltB t l + 1)
theorem without_memB {l : List (Int)} {t : Int} (hr : Rise ltB l) (ht : t ∈ l) (x : Int) : x ∈ withoutB l t ↔ x ∈ l ∧ ¬ x = t := by
  obtain ⟨hk, e⟩ := (found_iff totB hr t).1 ht
  have := mem_delAt totB hr (cnt ltB t l) hk x
  rw [e] at this
  exact this
theorem without_lenB {l : List (Int)} {t : Int} (hr : Rise ltB l) (ht : t ∈ l) : (withoutB l t).length + 1 = l.length := by
  obtain ⟨hk, e⟩ := (found_iff totB hr t).1 ht
  simp [withoutB]; omega
set_option maxHeartbeats 1000000 in
theorem drop_yes_B (sb : Nat) (v : Value) (l : List (Int)) (t : Int) (w : World) (h : SetAtB w sb v l) (hr : Rise ltB l) (hn : l.length < 4611686018427387904) (ht : hasB t l = true) :
    Calls Try.prog 40 #[.pointer (some ⟨sb, 0, none⟩), .int .u8 (t)] w fun e w' => e = .returned (.bool true) ∧ PutB sb v (withoutB l t) w w' := by
  obtain ⟨h1, h2, h3⟩ := h
  obtain ⟨hk, he⟩ := (found_iff totB hr t).1 ((has_iffB t l).1 ht)
  have c1 := cell_of_row w sb 0 _ _ _ h1
  have f1 := frozen_of_row w sb 0 _ _ h1
  simp at c1
  have hb := bs_B v l t w h2 hr hn
  rw [ht] at hb
  have hlt := lt_of_obj h1
  obtain ⟨i, hi⟩ : ∃ i, i = cnt ltB t l := ⟨_, rfl⟩
  have hpart : valsB l = valsB (l.take i) ++ .int .u8 (t) :: valsB (l.drop (i + 1)) := by
    have : l = l.take i ++ t :: l.drop (i + 1) := by
      have e2 : l[i]'(by omega) = t := by subst hi; exact he
      rw [← e2, List.getElem_cons_drop, List.take_append_drop]
    conv => lhs; rw [this]
    simp [valsB]
  obtain ⟨b, off, cap, rfl⟩ := seg_some h2 (by rw [vals_lenB]; omega)
  have hil : (valsB (l.take i)).length = i := by rw [vals_lenB, List.length_take]; omega
  have hyl : (valsB (l.drop (i + 1))).length = l.length - (i + 1) := by rw [vals_lenB, List.length_drop]
  have hd := delete_B b off cap (valsB (l.take i)) (valsB (l.drop (i + 1))) (.int .u8 (t)) w (by rw [← hpart, hil, hyl, show i + 1 + (l.length - (i + 1)) = l.length by omega]; rw [vals_lenB] at h2; exact h2) (vals_oneB _)
  have hw : valsB (l.take i) ++ valsB (l.drop (i + 1)) = valsB (withoutB l t) := by simp [valsB, withoutB, hi]
  rw [hw, hil, hyl, show i + 1 + (l.length - (i + 1)) = l.length by omega] at hd
  rw [vals_lenB] at hb c1 h1 h2 h3 ⊢
  have fin : ∀ w1, Seg w1 5 (.slice (some ⟨b, off, none⟩) (i + (l.length - (i + 1))) cap) (valsB (withoutB l t)) → Tch [b] w w1 → Hid (w1.cell? ⟨sb, 0, none⟩ = some (.slice (some ⟨b, off, none⟩) l.length cap) ∧ w1.frozen? ⟨sb, 0, none⟩ = false ∧ PutB sb (.slice (some ⟨b, off, none⟩) l.length cap) (withoutB l t) w (w1.setCell ⟨sb, 0, none⟩ (.slice (some ⟨b, off, none⟩) (i + (l.length - (i + 1))) cap))) := by
    intro w1 k1 k2
    have hsb : ¬ sb = b := fun e => h3 (by simp [blks, e])
    have o1 := k2.obj h1 (by simpa using hsb)
    refine ⟨by rw [cell_of_row w1 sb 0 _ _ _ o1]; rfl, frozen_of_row w1 sb 0 _ _ o1, _, ⟨heap_setCell_same w1 sb 0 _ _ _ o1, k1.kept ((Tch.refl [sb] w1).setCell (p := ⟨sb, 0, none⟩) (.inl (by simp)) _) (by simp [blks]; exact fun e => hsb e.symm), by simp [blks]; exact hsb⟩, (k2.mono (by simp [blks])).setCell (p := ⟨sb, 0, none⟩) (.inl (by simp)) _, fun y hy => .inl (by simpa [blks] using hy)⟩
  have FIN : Hid _ := fin
  rw [← hi] at hb
  have hib : i < l.length := by omega
  clear fin h1 h2 h3 hpart hw hil hyl hi he hk
  go_enter Try.func40, Try.ntmps40
  go_wp2_with (first | (go_at_call 72; refine hb.mono ?_; rintro e w' ⟨rfl, rfl⟩) | (go_at_call 73; refine hd.mono ?_; rintro e w1 ⟨rfl, k1, k2⟩; obtain ⟨hc1, hf1, hp⟩ := (FIN.out w1 k1 k2).out; have HP : Hid _ := hp; clear hp k1 k2))
  go_ret
  exact ⟨rfl, HP.out⟩
end Go.Proofs.Ytfokekciemofiaa
