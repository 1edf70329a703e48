
/- run: append of inputs. -/
import Derived.Test.YtpdhllohhhbgnaaDoorRnM
import Derived.Test.YtpdhllohhhbgnaaDoorRk
set_option linter.unusedSimpArgs false
set_option linter.unusedVariables false
namespace Go.Proofs.YtpdhllohhhbgnaaDoor
open Go.RowKit Go.Sort Go.Maps

section
variable {P : Program}
theorem seg_append_src (w : World) {t e : TypeId} {z : Value} {bytes : Nat} (ht : P.underlying t = some (.slice e)) (hinfo : (P.info? e).map (fun i => (i.zero, i.size, i.bytes)) = some (some z, 1, bytes)) (hz : z.oneCell' = true) (hb : 0 < bytes)
    {v : Value} {xs : List Value} (h : Seg w e v xs) (x : Value) (m : Nat) (news : List Value) (hl : news.length = m) (hsrc : Src P 1 t x m news w)
    (hv : ∃ b off c, v = .slice (some ⟨b, off, none⟩) xs.length c) (hbig : (xs.length + m) * bytes ≤ 140737488355328) (ty : TypeId) :
    ∃ v' w', (Builtin.append_ #[t, t] ty #[v, x]).run P w = .ok v' w' ∧ Seg w' e v' (xs ++ news) ∧ Tch (blks v) w w' ∧ (∀ b ∈ blks v', b ∈ blks v ∨ w.heap.size ≤ b) := by
  obtain ⟨i, hi, hz0, hzs, hzb⟩ := info_parts hinfo
  have hsz : xs.length + m ≤ 140737488355328 := Nat.le_trans (Nat.le_mul_of_pos_right _ hb) hbig
  rw [← hzs] at hsrc
  have hml : xs.length + m ≤ maxLen := by unfold maxLen; omega
  have hlen : (xs ++ news).length = xs.length + m := by rw [List.length_append, hl]
  rcases h with ⟨rfl, rfl⟩ | ⟨b, off, cap, cur, rfl, g1, g2, g3, g4, g5⟩
  · obtain ⟨b0, o0, c0, e0⟩ := hv
    cases e0
  · by_cases hroom : xs.length + m ≤ cap
    · have hr := run_append_room_src (P := P) w t t ty e i ht hi b off xs.length cap _ m news hsrc hroom
        (fun j hj => by rw [hzs, Nat.mul_one, cell_of_row w b _ cur e (0, 0) g1, Array.getElem?_eq_getElem (by omega)]; rfl) (fun j hj => frozen_of_row w b _ cur e g1)
      rw [hzs, Nat.mul_one] at hr
      obtain ⟨cur', k1, k2, k3⟩ := setCells_heap b e news (off + xs.length) w cur g1 (by omega)
      refine ⟨_, _, hr, .inr ⟨b, off, cap, cur', by rw [hlen], k1, by omega, g3, by omega, fun j hj => ?_⟩, Tch.setCells (.inl (by simp [blks])) _ _ _ (Tch.refl _ _), fun x hx => .inl (by simpa [blks] using hx)⟩
      rw [k3]
      by_cases hj2 : j < xs.length
      · rw [if_neg (by omega), g5 j hj2, List.getElem?_append_left hj2]
      · rw [if_pos (by omega), List.getElem?_append_right (by omega)]
        congr 1; omega
    · have hold : (Builtin.firstCells i.size xs.length (.slice (some ⟨b, off, none⟩) xs.length cap)).run P w.drew = .ok xs.toArray w.drew := by
        rw [hzs]
        exact run_firstCells_some w.drew 1 xs.length ⟨b, off, none⟩ xs.length cap xs (by simp) (fun j u hj => by
          have hlt : j < xs.length := (List.getElem?_eq_some_iff.1 hj).1
          rw [Addr.add_lit]
          show w.cell? _ = _
          rw [cell_of_row w b (off + j) cur e (0, 0) g1, g5 j hlt, hj])
      have hr := run_append_grow_src (P := P) w t t ty e i z ht hi hz0 (some ⟨b, off, none⟩) xs.length cap xs hold _ m news hsrc (by omega) (by omega) (by rw [hzb]; exact growslice_fits (by omega) hbig)
      refine ⟨_, _, hr, seg_new w e _ z hz _ _ hlen hml, ((Tch.refl _ w).drew).alloc _, fun b hb => ?_⟩
      simp [blks] at hb; exact .inr (by omega)
end
theorem inp_src {N : Nat} {w : World} {ia : Option Addr} {ic : Nat} {l : List Int} (h : Inp N w (.slice ia l.length ic) l) : Src Tryd.prog 1 26 (.slice ia l.length ic) l.length (ivals l) w := by
  obtain ⟨a, c, h1, h2, h3, h4⟩ := h
  cases h1
  have h1c : ∀ u ∈ ivals l, u.oneCell' = true := fun u hu => by unfold ivals at hu; obtain ⟨x, _, rfl⟩ := List.mem_map.1 hu; rfl
  rcases h4 with rfl | ⟨b, off, rfl, _, _, g⟩
  · cases ia with
    | none => exact Src.ofNil w Tryd.underlying26 ic
    | some a => exact Src.ofSlice w Tryd.underlying26 a 0 ic [] (by simp) (fun j u hj => by simp at hj) (fun u hu => by simp at hu)
  · exact Src.ofSlice w Tryd.underlying26 ⟨b, off, none⟩ l.length ic (ivals l) (by simp [ivals]) (fun j u hj => by
      rw [ivals, List.getElem?_map] at hj
      cases hl : l[j]? with
      | none => rw [hl] at hj; simp at hj
      | some y =>
        rw [hl] at hj
        simp at hj
        subst hj
        rw [Addr.add_lit]
        exact g j y hl) h1c
/-- The inputs, behind an empty list of the call's own. -/
theorem append_inp {N : Nat} {w : World} {ia : Option Addr} {ic b : Nat} {l : List Int} (h : Inp N w (.slice ia l.length ic) l) {cur : Array Value} (hob : w.heap[b]? = some (.cells cur 2 (0, 0))) (hl : l.length ≤ 1000000) (ty : TypeId) :
    ∃ v' w', (Builtin.append_ #[26, 26] ty #[.slice (some ⟨b, 0, none⟩) 0 0, .slice ia l.length ic]).run Tryd.prog w = .ok v' w' ∧ Seg w' 2 v' (ivals l) ∧ Tch [b] w w' := by
  obtain ⟨v', w', h1, h2, h3, h4⟩ := seg_append_src (P := Tryd.prog) w Tryd.underlying26 info_i64 rfl (by decide) (v := .slice (some ⟨b, 0, none⟩) 0 0) (xs := []) (.inr ⟨b, 0, 0, cur, rfl, hob, by simp, by decide, by omega, fun j hj => by simp at hj⟩) (.slice ia l.length ic) l.length (ivals l) (by simp [ivals]) (inp_src h) ⟨b, 0, 0, rfl⟩ (by simp; omega) ty
  exact ⟨v', w', h1, by simpa using h2, h3.mono (by simp [blks])⟩
end Go.Proofs.YtpdhllohhhbgnaaDoor
