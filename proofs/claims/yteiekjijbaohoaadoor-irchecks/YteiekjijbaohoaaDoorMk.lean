/- make: many blocks, many instructions. -/
import Derived.Test.YteiekjijbaohoaaDoorMod
import Derived.Laws.MakeOwn
set_option linter.unusedSimpArgs false
set_option linter.unusedVariables false
namespace Go.Proofs.YteiekjijbaohoaaDoor
open Go.RowKit Go.Sort Go.Maps

theorem made_list {α : Type} {f : α → List Value} {sz : Nat} (hf : ∀ y, (f y).length = sz) (h0 : 0 < sz) (x : α) (z : Array Value) (hz : z.toList = f x) (c : Nat) : madeCells z (c * sz) = ((List.replicate c x).flatMap f).toArray := by
  have hsz : z.size = sz := by rw [← Array.length_toList, hz, hf]
  apply Array.ext'
  apply List.ext_getElem?
  intro k
  simp only [List.toList_toArray]
  by_cases hk : k < c * sz
  · have h1 : k % sz < sz := Nat.mod_lt _ h0
    have h2 : k / sz < c := (Nat.div_lt_iff_lt_mul h0).2 hk
    have h3 := flatMap_get hf (List.replicate c x) (k / sz) (k % sz) x (by rw [List.getElem?_replicate, if_pos h2]) h1
    rw [show k / sz * sz + k % sz = k by rw [Nat.mul_comm]; exact Nat.div_add_mod k sz] at h3
    rw [h3, ← hz]
    unfold madeCells
    rw [hsz]
    have hk' : k % sz < z.size := by omega
    simp [hk, hk']
  · rw [List.getElem?_eq_none (by rw [Array.length_toList, size_madeCells]; omega), List.getElem?_eq_none (by rw [flatMap_len hf]; simp; omega)]
section
variable {P : Program}
theorem sl_make {t e : TypeId} {z : Value} {sz bytes : Nat} (ht : P.underlying t = some (.slice e)) (hinfo : (P.info? e).map (fun i => (i.zero, i.size, i.bytes)) = some (some z, sz, bytes)) {α : Type} {f : α → List Value} (hf : ∀ y, (f y).length = sz) (h0 : 0 < sz) (x : α) (hz : z.cells.toList = f x) (c : Nat) (ci : Int) (hci : ci = c) (hc : c ≤ 1000000) (hb : bytes ≤ 1000000) :
    ∃ cur : Array Value, (∀ w : World, (Instr.makeSlice t (.int .i64 ci) (.int .i64 ci)).run P w = .ok (.slice (some ⟨w.heap.size, 0, none⟩) c c) (w.alloc (.cells cur e))) ∧ ∀ w : World, Sl (w.alloc (.cells cur e)) e sz (.slice (some ⟨w.heap.size, 0, none⟩) c c) c ((List.replicate c x).flatMap f) := by
  obtain ⟨i, hi, hz0, hzs, hzb⟩ := info_parts hinfo
  subst hci
  refine ⟨((List.replicate c x).flatMap f).toArray, fun w => ?_, fun w => sl_new w _ rfl e sz c _ (by rw [flatMap_len hf]; simp) (by simp [maxLen]; omega)⟩
  have hbb : (i.bytes : Int) * (c : Int) ≤ 281474976710656 := by
    have h1 : i.bytes * c ≤ 1000000 * 1000000 := Nat.mul_le_mul (by omega) hc
    have h2 : ((i.bytes * c : Nat) : Int) ≤ 281474976710656 := by omega
    rwa [Int.natCast_mul] at h2
  have := run_make (P := P) w t e i z ht hi hz0 .i64 .i64 c c (by omega) (Int.le_refl _) hbb (by omega)
  rw [Int.toNat_natCast, hzs, made_list hf h0 x z.cells hz c] at this
  exact this
end
def zeroB : BlkM := ⟨0, .slice none 0 0, [], .slice none 0 0, [], 0, 0, 0, 0⟩
def zeroI : InsM := ⟨0, 0, 0, 0, 0, 0, 0⟩
theorem make_blocks : ∃ cur : Array Value, (∀ w : World, (Instr.makeSlice 50 (.int .i64 401) (.int .i64 401)).run Tryd.prog w = .ok (.slice (some ⟨w.heap.size, 0, none⟩) 401 401) (w.alloc (.cells cur 60))) ∧ ∀ w : World, Sl (w.alloc (.cells cur 60)) 60 7 (.slice (some ⟨w.heap.size, 0, none⟩) 401 401) 401 (blkC (List.replicate 401 zeroB)) :=
  sl_make (f := BlkM.cells) Tryd.underlying50 info_blk (fun _ => rfl) (by decide) zeroB rfl 401 401 rfl (by decide) (by decide)
theorem make_instrs : ∃ cur : Array Value, (∀ w : World, (Instr.makeSlice 31 (.int .i64 4000) (.int .i64 4000)).run Tryd.prog w = .ok (.slice (some ⟨w.heap.size, 0, none⟩) 4000 4000) (w.alloc (.cells cur 25))) ∧ ∀ w : World, Sl (w.alloc (.cells cur 25)) 25 7 (.slice (some ⟨w.heap.size, 0, none⟩) 4000 4000) 4000 (insC (List.replicate 4000 zeroI)) :=
  sl_make (f := InsM.cells) Tryd.underlying31 info_ins (fun _ => rfl) (by decide) zeroI rfl 4000 4000 rfl (by decide) (by decide)
theorem check_many : checkE (List.replicate 401 zeroB) = 7 := by
  unfold checkE; rw [if_pos (.inr (by rw [List.length_replicate]; decide))]
theorem cnt_rep : ∀ (c : Nat), countM (List.replicate c zeroB) = c
  | 0 => rfl
  | c + 1 => by
    have := cnt_rep c
    unfold countM at this ⊢
    rw [List.replicate_succ, List.map_cons, List.sum_cons, this]; simp [zeroB]; omega
theorem zeroB_ok (w : World) (v : Value) (h : Sl w 60 7 v 401 (blkC (List.replicate 401 zeroB))) : ProgOk w v (List.replicate 401 zeroB) :=
  ⟨by rw [List.length_replicate]; exact h, fun y hy => by
    obtain rfl := List.eq_of_mem_replicate hy
    exact ⟨Sl.nil _ _ _, fun z hz => by simp [zeroB] at hz, Sl.nil _ _ _⟩⟩
theorem zeroB_wf : ∀ x ∈ List.replicate 401 zeroB, BlkWf x := fun x hx => by
  obtain rfl := List.eq_of_mem_replicate hx
  exact ⟨wfI_mk (by simp [zeroB]) (by simp [zeroB]), wfI_mk (by simp [zeroB]) (by simp [zeroB]), wfI_mk (by simp [zeroB]) (by simp [zeroB]), fun q hq => by simp [zeroB] at hq, fun q hq => by simp [zeroB] at hq⟩
end Go.Proofs.YteiekjijbaohoaaDoor
