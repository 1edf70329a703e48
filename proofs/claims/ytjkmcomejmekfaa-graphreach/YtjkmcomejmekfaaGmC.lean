
/- Maps whose elements are lists of numbers: which slice lies at each key. -/
import Derived.Test.YtjkmcomejmekfaaMapC
import Derived.Test.YtjkmcomejmekfaaSl
set_option linter.unusedSimpArgs false
set_option linter.unusedVariables false
namespace Go.Proofs.Ytjkmcomejmekfaa
open Go.RowKit Go.Sort Go.Maps

/-- A slice, told as plain data: where it begins, how much it shows, how much room it has. -/
def encS : Value → DataW Unit
  | .slice (some a) n c => .agg [.lit (.int .i64 a.block), .lit (.int .i64 a.off), .lit (.int .i64 n), .lit (.int .i64 c)]
  | _ => .agg []
/-- How an element reads. -/
def slR : Value → Option (DataW Unit × List MemPlace)
  | .slice none 0 0 => some (.agg [], [])
  | .slice (some ⟨b, o, none⟩) n c => some (encS (.slice (some ⟨b, o, none⟩) n c), [])
  | _ => none
/-- A slice that such a map may have. -/
def Slc (v : Value) : Prop := v = .slice none 0 0 ∨ ∃ b o n c, v = .slice (some ⟨b, o, none⟩) n c
theorem slR_of {v : Value} (h : Slc v) : slR v = some (encS v, []) := by
  rcases h with rfl | ⟨b, o, n, c, rfl⟩ <;> rfl
theorem slR_slc {v : Value} {d : DataW Unit} {ps : List MemPlace} (h : slR v = some (d, ps)) : Slc v ∧ d = encS v := by
  unfold slR at h
  split at h
  · simp at h; exact ⟨.inl rfl, h.1.symm⟩
  · simp at h; exact ⟨.inr ⟨_, _, _, _, rfl⟩, h.1.symm⟩
  · simp at h
theorem encS_inj {u v : Value} (hu : Slc u) (hv : Slc v) (h : encS u = encS v) : u = v := by
  rcases hu with rfl | ⟨b, o, n, c, rfl⟩ <;> rcases hv with rfl | ⟨b', o', n', c', rfl⟩ <;> simp [encS] at h ⊢
  omega
theorem Sl.slc {w : World} {e : TypeId} {sz n : Nat} {v : Value} {cs : List Value} (h : Sl w e sz v n cs) : Slc v := by
  obtain ⟨h0, ⟨rfl, _⟩ | ⟨b, off, cap, cur, rfl, _⟩⟩ := h
  · exact .inl rfl
  · exact .inr ⟨_, _, _, _, rfl⟩
/-- The map at the block mb has the slice m x at the key x (nil: no entry, or an entry that is nil). -/
def MapS (w : World) (mb N : Nat) (m : Int → Value) : Prop := ∃ n sz f, n ≤ N ∧ MapHas Try.prog 3 .i64 slR w mb n sz f ∧ ∀ x, Slc (m x) ∧ (f x).getD (.agg []) = encS (m x)
theorem MapS.lt {w : World} {mb N : Nat} {m : Int → Value} (h : MapS w mb N m) : mb < w.heap.size := by obtain ⟨n, sz, f, _, h1, _⟩ := h; exact h1.lt
theorem MapS.kept {w w' : World} {mb N : Nat} {m : Int → Value} {S : List Nat} (h : MapS w mb N m) (t : Tch S w w') (hn : ¬ mb ∈ S) : MapS w' mb N m := by
  obtain ⟨n, sz, f, h0, h1, h2⟩ := h
  exact ⟨n, sz, f, h0, h1.kept t hn, h2⟩
theorem MapS.mono {w : World} {mb N M : Nat} {m : Int → Value} (h : MapS w mb N m) (hN : N ≤ M) : MapS w mb M m := by obtain ⟨n, sz, f, h0, h1, h2⟩ := h; exact ⟨n, sz, f, by omega, h1, h2⟩
theorem mapS_made (w : World) : MapS (w.alloc (.map #[] 0)) w.heap.size 0 (fun _ => .slice none 0 0) :=
  ⟨0, 0, fun _ => none, Nat.le_refl _, mapHas_made w, fun x => ⟨.inl rfl, rfl⟩⟩
theorem zero_ints (w : World) : (zeroValue 37).run Try.prog w = .ok (.slice none 0 0) w := by kernel_rfl
theorem und_int : Try.prog.underlying 3 = some (.int .i64) := Try.underlying3
/-- What a look-up comes to. -/
theorem MapS.look {w : World} {mb N : Nat} {m : Int → Value} (h : MapS w mb N m) {x : Int} (hx : (Lit.int .i64 x).wf = true) : (Instr.lookup 26 (.map (some mb)) (.int .i64 x) false).run Try.prog w = .ok (m x) w := by
  obtain ⟨n, sz, f, h0, h1, h2⟩ := h
  obtain ⟨v, ps, h3, h4⟩ := h1.look Try.underlying26 Try.underlying3 zero_ints (zd := .agg []) (zp := []) rfl hx
  obtain ⟨h5, h6⟩ := slR_slc h4
  rw [(h2 x).2] at h6
  rw [h3, encS_inj (h2 x).1 h5 h6]
/-- What a store comes to. -/
theorem MapS.store {w : World} {mb N : Nat} {m : Int → Value} (h : MapS w mb N m) (hN : N < maxLen) {x : Int} (hx : (Lit.int .i64 x).wf = true) {v : Value} (hv : Slc v) :
    ∃ w', (Instr.mapUpdate 26 (.map (some mb)) (.int .i64 x) v).run Try.prog w = .ok () w' ∧ MapS w' mb (N + 1) (fun y => if y = x then v else m y) ∧ Tch [mb] w w' := by
  obtain ⟨n, sz, f, h0, h1, h2⟩ := h
  obtain ⟨w', h3, h4, h5⟩ := h1.store Try.underlying26 Try.underlying3 (by omega) (slR_of hv) hx
  refine ⟨w', h3, ⟨_, _, _, by omega, h4, fun y => ?_⟩, h5⟩
  by_cases e : y = x
  · simp [e, hv]
  · simp only [e, if_false]
    exact h2 y
end Go.Proofs.Ytjkmcomejmekfaa
