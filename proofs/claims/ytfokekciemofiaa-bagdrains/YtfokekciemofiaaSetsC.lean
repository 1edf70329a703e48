/- BagSets: between two acts the set and the map have the same; what an act comes to. -/
import Derived.Test.YtfokekciemofiaaDelI
import Derived.Test.YtfokekciemofiaaMapC
import Derived.Test.YtfokekciemofiaaGrpC
import Derived.Sort.Grow
import Derived.Shelf.SlSortCmp.QuietGrown
set_option linter.unusedSimpArgs false
set_option linter.unusedVariables false
namespace Go.Proofs.Ytfokekciemofiaa
open Go.RowKit

theorem plainElem_bool_inv0 {P : Program} {e : TypeId} (he : P.underlying e = some .bool) {v : Value} {b : Bool} {ps : List MemPlace} (h : plainElem (H := Unit) P e v = some (.lit (.bool b), ps)) : v = .bool b := by
  unfold plainElem at h
  rw [he] at h
  cases v <;> simp at h
  rw [h.1]
theorem plainElem_bool_inv {v : Value} {b : Bool} {ps : List MemPlace} (h : plainElem (H := Unit) Try.prog 4 v = some (.lit (.bool b), ps)) : v = .bool b := plainElem_bool_inv0 Try.underlying4 h
/-- The items of l, told by a map. -/
def inl (l : List Int) : Int → Option (DataW Unit) := fun x => if x ∈ l then some (.lit (.bool true)) else none
/-- The map at mb has just those of l. -/
abbrev InMap (W : World) (mb n : Nat) (sz : Nat) (l : List Int) : Prop := MapHas Try.prog 3 .i64 (plainElem Try.prog 4) W mb n sz (inl l)
theorem in_look {W : World} {mb n sz : Nat} {l : List Int} (h : InMap W mb n sz l) {x : Int} (h0 : 0 ≤ x) (h1 : x < 30) :
    (Instr.lookup 27 (.map (some mb)) (.int .i64 x) false).run Try.prog W = .ok (.bool (hasI x l)) W := by
  obtain ⟨v, ps, r1, r2⟩ := MapHas.look h Try.underlying27 Try.underlying3 Try.zeroValue4 (plainElem_bool Try.underlying4 false) (x := x) (WalkArith.wf_i64 (by omega))
  have e : (inl l x).getD (.lit (.bool false)) = .lit (.bool (hasI x l)) := by
    unfold inl hasI
    by_cases hm : x ∈ l <;> simp [hm]
  rw [e] at r2
  rw [plainElem_bool_inv r2] at r1
  exact r1
/-- The set at sb has l; the map at mb has m; the set's own memory lies from B on. -/
def BS (B sb mb k : Nat) (W : World) (l : List Int) (sz : Nat) (m : List Int) : Prop :=
  ∃ v, SetAtI W sb v l ∧ Rise ltI l ∧ l.length ≤ k ∧ (∀ x ∈ l, 0 ≤ x ∧ x < 30) ∧ InMap W mb k sz m ∧ (∀ b ∈ blks v, B ≤ b) ∧ B ≤ sb ∧ B ≤ mb
theorem BS.kept {B sb mb k : Nat} {W W' : World} {l : List Int} {sz : Nat} {m : List Int} (h : BS B sb mb k W l sz m) (t : Tch [] W W') : BS B sb mb k W' l sz m := by
  obtain ⟨v, ⟨h1, h2, h3⟩, r⟩ := h
  exact ⟨v, ⟨t.obj h1 (by simp), h2.kept t (by simp), h3⟩, r.1, r.2.1, r.2.2.1, r.2.2.2.1.kept t (by simp), r.2.2.2.2⟩
theorem BS.map_ne {B sb mb k : Nat} {W : World} {l : List Int} {sz : Nat} {m : List Int} {v : Value} (hs : SetAtI W sb v l) (hm : InMap W mb k sz m) : ¬ mb ∈ sb :: blks v := by
  obtain ⟨h1, h2, h3⟩ := hs
  obtain ⟨es, ck, ho⟩ := MapHas.obj hm
  intro hmem
  rcases List.mem_cons.1 hmem with e | e
  · subst e; rw [h1] at ho; cases ho
  · rcases h2 with ⟨rfl, _⟩ | ⟨b, off, cap, cur, rfl, g1, _⟩
    · simp [blks] at e
    · simp [blks] at e; subst e; rw [g1] at ho; cases ho
/-- The boxes of acts lie as they lay. -/
def Keep (W W' : World) : Prop := ∀ (ab : Nat) (cs : Array Value), W.heap[ab]? = some (.cells cs 29 (0, 0)) → W'.heap[ab]? = some (.cells cs 29 (0, 0))
theorem keep_set {W W' : World} {sb : Nat} {v : Value} {l : List Int} (hs : SetAtI W sb v l) (t : Tch (sb :: blks v) W W') : Keep W W' := fun ab cs h => t.obj h fun hm => by
  obtain ⟨h1, h2, h3⟩ := hs
  rcases List.mem_cons.1 hm with e | e
  · subst e; rw [h1] at h; cases h
  · rcases h2 with ⟨rfl, _⟩ | ⟨b, off, cap, cur, rfl, g1, _⟩
    · simp [blks] at e
    · simp [blks] at e; subst e; rw [g1] at h; cases h
theorem keep_map {W W' : World} {mb n sz : Nat} {l : List Int} (hm : InMap W mb n sz l) (t : Tch [mb] W W') : Keep W W' := fun ab cs h => t.obj h fun hmem => by
  obtain ⟨es, ck, ho⟩ := MapHas.obj hm
  simp at hmem; subst hmem; rw [ho] at h; cases h
theorem Keep.refl (W : World) : Keep W W := fun _ _ h => h
theorem bs_drop {B sb mb k : Nat} {W : World} {l : List Int} (h : BS B sb mb k W l l.length l) (hB : B ≤ W.heap.size) {x : Int} (h0 : 0 ≤ x) (h1 : x < 30) (hk : k ≤ 1000) :
    Calls Try.prog 10 #[.pointer (some ⟨sb, 0, none⟩), .int .i64 x] W fun e w2 => e = .returned (.bool (hasI x l)) ∧ (Instr.lookup 27 (.map (some mb)) (.int .i64 x) false).run Try.prog w2 = .ok (.bool (hasI x l)) w2 ∧
      ∃ l', BS B sb mb k w2 l' l.length l ∧ (∀ y, y ∈ l' ↔ y ∈ l ∧ ¬ y = x) ∧ l'.length = (if hasI x l then l.length - 1 else l.length) ∧ Below B W w2 ∧ Keep W w2 := by
  have h' := h
  obtain ⟨v, hs, hr, hlk, hrg, hm, hbv, hsb, hmb⟩ := h
  cases hh : hasI x l with
  | false =>
    refine (drop_no_I sb v l x W hs hr (by omega) hh).mono ?_
    rintro e w2 ⟨rfl, rfl⟩
    have hn : ¬ x ∈ l := fun hm => by rw [(has_iffI _ _).2 hm] at hh; cases hh
    exact ⟨rfl, by rw [in_look hm h0 h1, hh], l, h', fun y => ⟨fun hy => ⟨hy, fun e => hn (e ▸ hy)⟩, fun hy => hy.1⟩, rfl, Below.refl _ _, Keep.refl _⟩
  | true =>
    refine (drop_yes_I sb v l x W hs hr (by omega) hh).mono ?_
    rintro e w2 ⟨rfl, v', k1, k2, k3⟩
    have hx := (has_iffI _ _).1 hh
    have hm2 : InMap w2 mb k l.length l := MapHas.kept hm k2 (BS.map_ne (B := B) hs hm)
    have hlen := without_lenI hr hx
    refine ⟨rfl, by rw [in_look hm2 h0 h1, hh], withoutI l x, ⟨v', k1, rise_delAt hr _, by omega, fun y hy => hrg y ((without_memI hr hx y).1 hy).1, hm2, fun b hb => ?_, hsb, hmb⟩, fun y => without_memI hr hx y, by simp; omega, k2.below hB (fun y hy => ?_), keep_set hs k2⟩
    · rcases k3 b hb with h | h
      · exact hbv b h
      · omega
    · rcases List.mem_cons.1 hy with h | h
      · omega
      · exact hbv y h
theorem bs_add {B sb mb k : Nat} {W : World} {l : List Int} (h : BS B sb mb k W l l.length l) (hB : B ≤ W.heap.size) {x : Int} (h0 : 0 ≤ x) (h1 : x < 30) (hk : k ≤ 1000) :
    Calls Try.prog 11 #[.pointer (some ⟨sb, 0, none⟩), .int .i64 x] W fun e w2 => e = .returned (.bool (!hasI x l)) ∧ (Instr.lookup 27 (.map (some mb)) (.int .i64 x) false).run Try.prog w2 = .ok (.bool (hasI x l)) w2 ∧
      ∃ l', BS B sb mb (k + 1) w2 l' l.length l ∧ (∀ y, y ∈ l' ↔ y = x ∨ y ∈ l) ∧ l'.length = (if hasI x l then l.length else l.length + 1) ∧ Below B W w2 ∧ Keep W w2 := by
  obtain ⟨v, hs, hr, hlk, hrg, hm, hbv, hsb, hmb⟩ := h
  cases hh : hasI x l with
  | true =>
    refine (add_no_I sb v l x W hs hr (by omega) hh).mono ?_
    rintro e w2 ⟨rfl, rfl⟩
    have hx := (has_iffI _ _).1 hh
    exact ⟨rfl, by rw [in_look hm h0 h1, hh], l, ⟨v, hs, hr, by omega, hrg, MapHas.mono hm (by omega), hbv, hsb, hmb⟩, fun y => ⟨.inr, fun hy => hy.elim (fun e => e ▸ hx) id⟩, rfl, Below.refl _ _, Keep.refl _⟩
  | false =>
    have hn : ¬ x ∈ l := fun hm => by rw [(has_iffI _ _).2 hm] at hh; cases hh
    refine (add_yes_I sb v l x W hs hr (by omega) hh).mono ?_
    rintro e w2 ⟨rfl, v', k1, k2, k3⟩
    have hm2 : InMap w2 mb k l.length l := MapHas.kept hm k2 (BS.map_ne (B := B) hs hm)
    have hil := insAt_length l (cnt ltI x l) (cnt_le _ _) x
    refine ⟨rfl, by rw [in_look hm2 h0 h1, hh], _, ⟨v', k1, rise_insAt totI hr x hn, by omega, fun y hy => ?_, MapHas.mono hm2 (by omega), fun b hb => ?_, hsb, hmb⟩, fun y => mem_insAt l _ x y, by simp; exact hil, k2.below hB (fun y hy => ?_), keep_set hs k2⟩
    · rcases (mem_insAt l _ x y).1 hy with rfl | h
      · exact ⟨h0, h1⟩
      · exact hrg y h
    · rcases k3 b hb with h | h
      · exact hbv b h
      · omega
    · rcases List.mem_cons.1 hy with h | h
      · omega
      · exact hbv y h
theorem isSome_inl (l : List Int) (x : Int) : (inl l x).isSome = hasI x l := by unfold inl hasI; by_cases h : x ∈ l <;> simp [h]
/-- The map follows: delete. -/
theorem bs_del {B sb mb k : Nat} {W : World} {l l' : List Int} (h : BS B sb mb k W l' l.length l) {x : Int} (h0 : 0 ≤ x) (h1 : x < 30) (hm' : ∀ y, y ∈ l' ↔ y ∈ l ∧ ¬ y = x) (hlen : l'.length = (if hasI x l then l.length - 1 else l.length)) (ty : TypeId) (hB : B ≤ W.heap.size) :
    ∃ w', (Builtin.delete_ #[27, 3] ty #[.map (some mb), .int .i64 x]).run Try.prog W = .ok (.tuple #[]) w' ∧ BS B sb mb k w' l' l'.length l' ∧ Below B W w' ∧ Keep W w' := by
  obtain ⟨v, hs, hr, hlk, hrg, hm, hbv, hsb, hmb⟩ := h
  obtain ⟨w', d1, d2, d3⟩ := MapHas.drop hm Try.underlying27 Try.underlying3 (x := x) (WalkArith.wf_i64 (by omega)) ty
  have hne := BS.map_ne (B := B) hs hm
  rw [isSome_inl, ← hlen] at d2
  refine ⟨w', d1, ⟨v, ⟨d3.obj hs.1 (fun e => hne (by simp at e; simp [e])), hs.2.1.kept d3 (fun b hb e => hne (by simp at e; subst e; exact List.mem_cons_of_mem _ hb)), hs.2.2⟩, hr, hlk, hrg, d2.cong fun y hy => ?_, hbv, hsb, hmb⟩, d3.below hB (by simp; exact hmb), keep_map hm d3⟩
  unfold inl
  by_cases e : y = x
  · subst e; simp [hm']
  · simp [hm', e]
/-- The map follows: a store. -/
theorem bs_put {B sb mb k : Nat} {W : World} {l l' : List Int} (h : BS B sb mb k W l' l.length l) {x : Int} (h0 : 0 ≤ x) (h1 : x < 30) (hm' : ∀ y, y ∈ l' ↔ y = x ∨ y ∈ l) (hlen : l'.length = (if hasI x l then l.length else l.length + 1)) (hk : k ≤ 1000) (hk2 : l'.length ≤ k) (hB : B ≤ W.heap.size) :
    ∃ w', (Instr.mapUpdate 27 (.map (some mb)) (.int .i64 x) (.bool true)).run Try.prog W = .ok () w' ∧ BS B sb mb k w' l' l'.length l' ∧ Below B W w' ∧ Keep W w' := by
  obtain ⟨v, hs, hr, hlk, hrg, hm, hbv, hsb, hmb⟩ := h
  obtain ⟨w', d1, d2, d3⟩ := MapHas.store hm Try.underlying27 Try.underlying3 (by unfold maxLen; omega) (plainElem_bool Try.underlying4 true) (x := x) (WalkArith.wf_i64 (by omega))
  have hne := BS.map_ne (B := B) hs hm
  rw [isSome_inl, ← hlen] at d2
  refine ⟨w', d1, ⟨v, ⟨d3.obj hs.1 (fun e => hne (by simp at e; simp [e])), hs.2.1.kept d3 (fun b hb e => hne (by simp at e; subst e; exact List.mem_cons_of_mem _ hb)), hs.2.2⟩, hr, hlk, hrg, (d2.tight.mono hk2).cong fun y hy => ?_, hbv, hsb, hmb⟩, d3.below hB (by simp; exact hmb), keep_map hm d3⟩
  unfold inl
  by_cases e : y = x
  · subst e; simp [hm']
  · simp [hm', e]
end Go.Proofs.Ytfokekciemofiaa
