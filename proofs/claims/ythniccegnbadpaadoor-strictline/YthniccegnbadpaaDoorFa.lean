/- Joined: SrtC. -/
import Derived.Test.YthniccegnbadpaaDoorGk
import Derived.Test.YthniccegnbadpaaDoorKc
import Derived.Shelf.SlSortCmp.Insertion
import Derived.Shelf.SlGeneric
import Derived.Sort.LotA


/- For the sort: a row of items that the sort has laid anew, as a slice that shows them. -/
set_option linter.unusedSimpArgs false
set_option linter.unusedVariables false
namespace Go.Proofs.YthniccegnbadpaaDoor
open Go.RowKit Go.Sort

theorem seg_putRow {α : Type} [Inhabited α] (enc : α → Value) (w : World) (e : TypeId) (b off cap : Nat) (l l' : List α) (h : Seg w e (.slice (some ⟨b, off, none⟩) l.length cap) (l.map enc)) (hl : l'.length = l.length) (n : Nat) :
    Seg ((putRow enc w b off l'.toArray).drewN n) e (.slice (some ⟨b, off, none⟩) l.length cap) (l'.map enc) ∧ Tch [b] w ((putRow enc w b off l'.toArray).drewN n) := by
  rcases h with ⟨h, _⟩ | ⟨b', off', cap', cur, g0, g1, g2, g3, g4, g5⟩
  · cases h
  · rw [List.length_map] at g0 g2 g5
    cases g0
    have hb : (putRow enc w b off l'.toArray).heap[b]? = some (.cells (putCells enc off l'.toArray cur) e (0, 0)) := by
      unfold putRow mapBlock
      show (w.heap.modify b _)[b]? = _
      rw [Array.getElem?_modify, if_pos rfl, g1]; rfl
    refine ⟨.inr ⟨b, off, cap, _, by rw [List.length_map, hl], hb, by rw [List.length_map]; omega, g3, by simp [putCells]; omega, fun j hj => ?_⟩, Tch.drewN (S := [b]) (a := w) (w := putRow enc w b off l'.toArray) ⟨rfl, rfl, rfl, by simp [putRow, mapBlock], fun k hk hn => ?_⟩ n⟩
    · rw [List.length_map] at hj
      have hc : off + j < cur.size := by omega
      simp only [putCells, Array.getElem?_mapIdx, Array.getElem?_eq_getElem hc, Option.map_some, List.size_toArray]
      rw [if_pos (by omega), show off + j - off = j by omega, getElem!_pos l'.toArray j (by simpa using hj)]
      simp [hj]
    · show (w.heap.modify b _)[k]? = _
      rw [Array.getElem?_modify, if_neg (fun e => hn (by simp [e]))]
theorem seg_holds {α : Type} [Inhabited α] (enc : α → Value) (w : World) (e : TypeId) (b off cap : Nat) (l : List α) (h : Seg w e (.slice (some ⟨b, off, none⟩) l.length cap) (l.map enc)) : Holds enc w b off l.toArray := by
  obtain ⟨_, h1, _, h3, _⟩ := h.cell
  intro j hj
  have hj' : j < l.length := by simpa using hj
  refine ⟨h1 j _ ?_, h3 _⟩
  rw [getElem!_pos l.toArray j hj]
  simp [hj']

/-- It doesn't fall. -/
def Weak {α : Type} (lt : α → α → Bool) (l : List α) : Prop := l.Pairwise fun a b => lt b a = false
theorem TotLt.swo {α : Type} {lt : α → α → Bool} (T : TotLt lt) : SWO lt where
  irrefl := T.irr
  trans := T.trans
  ntrans := fun a b c h k => by
    cases e : lt a c with
    | false => rfl
    | true =>
      cases e2 : lt b a with
      | true => have := T.trans _ _ _ e2 e; rw [k] at this; cases this
      | false => have := T.tri _ _ h e2; subst this; rw [k] at e; cases e
theorem perm_weak {α : Type} [Inhabited α] {lt : α → α → Bool} (l : List α) (d : Array α) (h1 : PermIn 0 l.toArray.size l.toArray d) (h2 : SortedIn lt 0 l.toArray.size d) : d.size = l.length ∧ d.toList.Perm l ∧ Weak lt d.toList := by
  obtain ⟨e1, _, e3⟩ := h1
  have e0 : d.size = l.length := by simpa using e1
  refine ⟨e0, ?_, ?_⟩
  · have a1 : d.extract 0 l.toArray.size = d := by rw [← e1]; exact Array.extract_size
    have a2 : l.toArray.extract 0 l.toArray.size = l.toArray := Array.extract_size
    rw [a1, a2] at e3; simpa using e3
  · refine List.pairwise_iff_getElem.2 fun i j hi hj hij => ?_
    have hi' : i < d.size := by simpa using hi
    have hj' : j < d.size := by simpa using hj
    have := h2 i j (Nat.zero_le _) hij (by simp; omega)
    rw [getElem!_pos d j hj', getElem!_pos d i hi'] at this
    simpa using this
end Go.Proofs.YthniccegnbadpaaDoor

