/- For LexReads: one piece more. -/
import Derived.Test.YtnflohejjgmlnaaDoorJnP
import Derived.Maps.AppendAt
set_option linter.unusedSimpArgs false
set_option linter.unusedVariables false
namespace Go.Proofs.YtnflohejjgmlnaaDoor
open Go.RowKit Go.Sort

/-- What stands behind a piece. -/
def gapB (j : Nat) : List UInt8 := if j = 1 then [32, 32] else [32]
theorem toks_gap {x : List UInt8} {k : Int} {t : List UInt8} {m : Int} (h : PReads x k t m) (j : Nat) : Toks (x ++ gapB j) [⟨k, 0, t, m, 0⟩] := by
  unfold gapB
  split
  · have := (toks_piece h).app toks_blank
    rw [List.append_assoc] at this
    exact this
  · exact toks_piece h
theorem toks_read {l : List UInt8} {ws : List Ev} (hl : Toks l ws) {x : List UInt8} {k : Int} {t : List UInt8} {m : Int} (h : PReads x k t m) (j : Nat) : Toks (l ++ (x ++ gapB j)) (ws ++ [⟨k, l.length, t, m, 0⟩]) := by
  have := hl.app (toks_gap h j)
  simpa [Ev.sh] using this
theorem toks_notes {l : List UInt8} {ws : List Ev} (hl : Toks l ws) : Toks (l ++ [35, 32, 64, 10]) (ws ++ [⟨7, l.length + 3, [], 0, 0⟩]) := by
  have := hl.app toks_note
  simpa [Ev.sh, Nat.add_comm] using this
theorem own_lt {W : World} {base : Nat} {e : TypeId} {sz n : Nat} {v : Value} {xs : List Value} (h : W.ownsRow base e sz v n xs) {g : Nat} (hg : v.ownBlock = some g) : g < W.heap.size ∧ base ≤ g := by
  obtain ⟨h0, ⟨rfl, _⟩ | ⟨b, cap, cur, rfl, h2, h3, _⟩⟩ := h
  · simp [Value.ownBlock] at hg
  · simp [Value.ownBlock] at hg; subst hg; exact ⟨lt_of_obj h3, h2⟩
/-- What an append onto a row of one's own leaves. -/
theorem grown_keeps {w0 W Wb w3 : World} {base : Nat} {e : TypeId} {sz n : Nat} {v : Value} {xs : List Value} (h : W.ownsRow base e sz v n xs) (hb : Below W.heap.size W Wb) (hg : Wb.grownBy w3 v.ownBlock) (b0 : Below base w0 W) (hbase : base ≤ W.heap.size) :
    (∀ k o, W.heap.size ≤ k → Wb.heap[k]? = some o → w3.heap[k]? = some o) ∧ Below base w0 w3 ∧ W.heap.size ≤ w3.heap.size := by
  have hne : ∀ k, W.heap.size ≤ k → some k ≠ v.ownBlock := fun k hk e => by
    have := own_lt h e.symm; omega
  refine ⟨fun k o hk ho => (hg.block k (lt_of_obj ho) (hne k hk)).trans ho, ?_, Nat.le_trans hb.size hg.size⟩
  refine (b0.trans (hb.mono hbase)).grown hg (Nat.le_trans hbase hb.size) (fun j ej => (own_lt h ej).2)
theorem cells_new4b (W : World) (b : Nat) (hb : b = W.heap.size) (T : TypeId) (x : Ev) : ∀ j u, x.cells[j]? = some u → (W.alloc (.cells #[.int .u8 x.k, .int .i64 x.p, .string (bytesOf x.t), .int .i64 x.n] T)).cell? ((⟨b, 0, none⟩ : Addr).add j) = some u := by
  subst hb
  exact cells_new4 W T _ _ _ _
theorem tcells_eq {ws : List Ev} {n : Nat} (h : n = ws.length) {x : Ev} : tcells ws ++ x.cells = tcells (ws ++ [x]) := (tcells_one ws x).symm
theorem read_ok {l : List UInt8} {ws : List Ev} (h : Toks l ws) : evT 0 l = ws ++ [⟨0, l.length, [], 0, 0⟩] := by
  have := h.all 0
  rwa [sh_zero, Nat.zero_add] at this
end Go.Proofs.YtnflohejjgmlnaaDoor
