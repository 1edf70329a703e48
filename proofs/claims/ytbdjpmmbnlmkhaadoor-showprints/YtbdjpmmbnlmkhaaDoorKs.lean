/- Joined: Shb, Shl, Shp, Sht, Shs, Shn, Shi, Shd, Shx. -/
import Derived.Test.YtbdjpmmbnlmkhaaDoorKg
import Derived.Test.YtbdjpmmbnlmkhaaDoorJn
import Derived.Lib.Builder
import Derived.Lib.UnsafeStr
import Derived.Laws.Externs
import Derived.Deep.AppendSrc
import Derived.Deep.CutRange
import Derived.Shelf.Strconv.Itoa4
import Derived.Shelf.Lay
import Derived.Ground.NamesProg
import Derived.Lib.ItoaLen
import Derived.Test.YtbdjpmmbnlmkhaaDoorKa
import Derived.Test.YtbdjpmmbnlmkhaaDoorJk
import Derived.Deep.RegionHeld3


/- Texts that are put together: strings.Builder in show's own text. -/
set_option linter.unusedSimpArgs false
set_option linter.unusedVariables false
namespace Go.Proofs.YtbdjpmmbnlmkhaaDoor
open Go.RowKit Go.Sort

/-- It begins where its block does. -/
def off0 : Value → Prop
  | .slice (some a) _ _ => a.off = 0 ∧ a.spot = none
  | _ => True
section
variable {P : Program}
/-- append of a string's bytes to a slice of the call's own. -/
theorem sl_append_s (w : World) {t tx e : TypeId} {z : Value} {bytes : Nat} (ht : P.underlying t = some (.slice e)) (htx : P.underlying tx = some .string) (hinfo : (P.info? e).map (fun i => (i.zero, i.size, i.bytes)) = some (some z, 1, bytes)) (hz : z.cells.size = 1) (hb : 0 < bytes)
    {v : Value} {n : Nat} {cs : List Value} (h : Sl w e 1 v n cs) (s : ByteArray) (hbig : (n + s.size) * bytes ≤ 140737488355328) (ty : TypeId) :
    ∃ v' w', (Builtin.append_ #[t, tx] ty #[v, .string s]).run P w = .ok v' w' ∧ Sl w' e 1 v' (n + s.size) (cs ++ Go.byteCells s) ∧ Tch (blks v) w w' ∧ (∀ b ∈ blks v', b ∈ blks v ∨ w.heap.size ≤ b) ∧ (off0 v → off0 v') := by
  obtain ⟨i, hi, hz0, hzs, hzb⟩ := info_parts hinfo
  have hsz : n + s.size ≤ 140737488355328 := Nat.le_trans (Nat.le_mul_of_pos_right _ hb) hbig
  have hsrc : Src P i.size tx (.string s) s.size (Go.byteCells s) w := by rw [hzs]; exact Src.ofString w htx s
  have hl : (Go.byteCells s).length = s.size * 1 := by rw [Go.byteCells_length, Nat.mul_one]
  have hml : n + s.size ≤ maxLen := by unfold maxLen; omega
  obtain ⟨h0, h⟩ := h
  have hlen : (cs ++ Go.byteCells s).length = (n + s.size) * 1 := by rw [List.length_append, hl, h0, Nat.add_mul]
  have hnew : ∀ old, Sl (w.drew.alloc (.cells ((cs ++ Go.byteCells s).toArray ++ Builtin.zeroCells z.cells (grownCap w (n + s.size) old e - (n + s.size))) e)) e 1 (.slice (some ⟨w.heap.size, 0, none⟩) (n + s.size) (grownCap w (n + s.size) old e)) (n + s.size) (cs ++ Go.byteCells s) := fun old => by
    have hge := grownCap_ge w (n + s.size) old e
    refine ⟨hlen, .inr ⟨w.heap.size, 0, _, _, rfl, heap_alloc_new w.drew _, hge, grownCap_le_maxLen w _ old e hml, ?_, fun j hj => ?_⟩⟩
    · rw [Array.size_append, size_zeroCells, hz, List.size_toArray, hlen, Nat.zero_add, ← Nat.add_mul]
      exact Nat.mul_le_mul_right _ (by omega)
    · rw [Nat.zero_add, Array.getElem?_append_left (by simpa using hj)]; simp
  rcases h with ⟨rfl, rfl⟩ | ⟨b, off, cap, cur, rfl, g1, g2, g3, g4, g5⟩
  · have hcs : cs = [] := List.eq_nil_of_length_eq_zero (by simpa using h0)
    subst hcs
    by_cases hm : s.size = 0
    · have hn : Go.byteCells s = [] := List.eq_nil_of_length_eq_zero (by rw [hl, hm])
      refine ⟨.slice none 0 0, w, ?_, by rw [hm, hn]; exact Sl.nil w e 1, (Tch.refl [] w).mono (by simp), by simp [blks], fun h => h⟩
      simp [Builtin.append_, run_underlying ht, run_underlying htx, sizeOf, typeInfo, hi, Builtin.lenOf, Builtin.firstCells, hm]
    · have hr := run_append_grow_src (P := P) w t tx ty e i z ht hi hz0 none 0 0 [] (by simpa using run_firstCells_none (P := P) w.drew i.size 0 0 0) _ s.size _ hsrc (by omega) (by simp at hsz ⊢; omega) (by rw [hzb]; exact growslice_fits (by omega) (by simpa using hbig))
      exact ⟨_, _, hr, hnew 0, ((Tch.refl _ w).drew).alloc _, fun b hb => by simp [blks] at hb; exact .inr (by omega), fun _ => ⟨rfl, rfl⟩⟩
  · by_cases hroom : n + s.size ≤ cap
    · have hcap : n * 1 + s.size * 1 ≤ cap * 1 := by omega
      have hr := run_append_room_src (P := P) w t tx ty e i ht hi b off n cap _ s.size _ hsrc hroom
        (fun j hj => by rw [hzs, cell_of_row w b _ cur e (0, 0) g1, Array.getElem?_eq_getElem (by omega)]; rfl) (fun j hj => frozen_of_row w b _ cur e g1)
      rw [hzs] at hr
      obtain ⟨cur', k1, k2, k3⟩ := setCells_heap b e (Go.byteCells s) (off + n * 1) w cur g1 (by omega)
      refine ⟨_, _, hr, ⟨hlen, .inr ⟨b, off, cap, cur', rfl, k1, by omega, g3, by omega, fun j hj => ?_⟩⟩, Tch.setCells (.inl (by simp [blks])) _ _ _ (Tch.refl _ _), fun x hx => .inl (by simpa [blks] using hx), fun h => h⟩
      rw [k3]
      rw [List.length_append] at hj
      by_cases hj2 : j < cs.length
      · rw [if_neg (by omega), g5 j hj2, List.getElem?_append_left hj2]
      · rw [if_pos (by omega), List.getElem?_append_right (by omega)]
        congr 1; omega
    · have hold : (Builtin.firstCells i.size n (.slice (some ⟨b, off, none⟩) n cap)).run P w.drew = .ok cs.toArray w.drew := by
        rw [hzs]
        exact run_firstCells_some w.drew 1 n ⟨b, off, none⟩ n cap cs h0 (fun j u hj => by
          have hlt : j < cs.length := (List.getElem?_eq_some_iff.1 hj).1
          rw [Addr.add_lit]
          show w.cell? _ = _
          rw [cell_of_row w b (off + j) cur e (0, 0) g1, g5 j hlt, hj])
      have hr := run_append_grow_src (P := P) w t tx ty e i z ht hi hz0 (some ⟨b, off, none⟩) n cap cs hold _ s.size _ hsrc (by omega) (by omega) (by rw [hzb]; exact growslice_fits (by omega) hbig)
      exact ⟨_, _, hr, hnew cap, ((Tch.refl _ w).drew).alloc _, fun x hx => by simp [blks] at hx; exact .inr (by omega), fun _ => ⟨rfl, rfl⟩⟩
theorem wpList_append_s (w : World) {ops : Array Oper} {rest : List Oper} {o : Oper} {a : Act} {Q : Exit → Act → World → Prop} (hgd : o.guard = none) (d x : Operand) (t tx : TypeId)
    (ho : o.op = .call { callee := .builtin .append, args := #[d, x], argTypes := #[t, tx] }) {e : TypeId} {z : Value} {bytes : Nat} (ht : P.underlying t = some (.slice e)) (htx : P.underlying tx = some .string) (hinfo : (P.info? e).map (fun i => (i.zero, i.size, i.bytes)) = some (some z, 1, bytes)) (hz : z.cells.size = 1) (hb : 0 < bytes)
    (v : Value) {n : Nat} {cs : List Value} (hs : a.eval d = v) (h : Sl w e 1 v n cs) (s : ByteArray) (hx : a.eval x = .string s) (hbig : (n + s.size) * bytes ≤ 140737488355328)
    (hK : ∀ v' w', Sl w' e 1 v' (n + s.size) (cs ++ Go.byteCells s) → Tch (blks v) w w' → (∀ b ∈ blks v', b ∈ blks v ∨ w.heap.size ≤ b) → (off0 v → off0 v') → wpList P ops Q rest (a.put o.dst v') w') : wpList P ops Q (o :: rest) a w := by
  obtain ⟨v', w', p1, p2, p3, p4, p5⟩ := sl_append_s w ht htx hinfo hz hb h s hbig o.type
  exact Lib.wpList_append_run _ hgd _ _ _ _ ho _ _ hs hx _ _ p1 (hK v' w' p2 p3 p4 p5)
end
theorem info_u8 : (Tryd.prog.info? 5).map (fun i => (i.zero, i.size, i.bytes)) = some (some (.int .u8 0), 1, 1) := by kernel_rfl
def u8c (l : List UInt8) : List Value := l.map fun c => .int .u8 c.toNat
theorem u8c_app (a b : List UInt8) : u8c a ++ u8c b = u8c (a ++ b) := by simp [u8c]
theorem u8c_bytes (l : List UInt8) : Go.byteCells (bytesOf l) = u8c l := by simp [Go.byteCells, u8c, bytesOf]
/-- A text of show's at the block b: its bytes, in v; all of it lies from n on. p: nil while nothing was put. -/
structure Tx (n b : Nat) (p v : Value) (l : List UInt8) (w : World) : Prop where
  nb : n ≤ b
  pp : p = .pointer none ∨ p = .pointer (some ⟨b, 0, none⟩)
  o : w.heap[b]? = some (.cells #[p, v] 103 (0, 0))
  s : Sl w 5 1 v l.length (u8c l)
  d : ∀ k ∈ blks v, n ≤ k ∧ ¬ k = b
  z : off0 v
theorem Tx.tch {n b : Nat} {p v : Value} {l : List UInt8} {w w' : World} {S : List Nat} (h : Tx n b p v l w) (t : Tch S w w') (hS : ∀ x ∈ S, ¬ x = b ∧ ¬ x ∈ blks v) : Tx n b p v l w' :=
  ⟨h.nb, h.pp, t.obj h.o (fun hm => (hS b hm).1 rfl), h.s.kept t (fun k hk hm => (hS k hm).2 hk), h.d, h.z⟩
theorem Tx.lt {n b : Nat} {p v : Value} {l : List UInt8} {w : World} (h : Tx n b p v l w) : b < w.heap.size ∧ ∀ k ∈ blks v, k < w.heap.size := ⟨lt_of_obj h.o, h.s.lt⟩
theorem tx_new {n : Nat} (w : World) (hn : n ≤ w.heap.size) : Tx n w.heap.size (.pointer none) (.slice none 0 0) [] (w.alloc (.cells #[.pointer none, .slice none 0 0] 103)) :=
  ⟨hn, .inl rfl, heap_alloc_new w _, Sl.nil _ _ _, by simp [blks], trivial⟩
theorem lies_text : liesAt Tryd.prog Tryd.prog.depth 103 (2 / Tryd.prog.cellsOf 103) 0 101 1 = true := by kernel_rfl
theorem size_builder0 : (Tryd.prog.info? 101).map (·.size) = some 2 := by kernel_rfl
theorem size_builder : ∃ j, Tryd.prog.info? 101 = some j ∧ j.size ≠ 0 := by
  obtain ⟨j, hj, hs⟩ := Option.map_eq_some_iff.1 size_builder0
  exact ⟨j, hj, by rw [hs]; decide⟩
set_option maxRecDepth 100000 in
set_option maxHeartbeats 4000000 in
theorem copyCheck_tx {n b : Nat} {p v : Value} {l : List UInt8} (w : World) (h : Tx n b p v l w) :
    Calls Tryd.prog 121 #[.pointer (some ⟨b, 0, none⟩)] w fun e w' => e = .returned (.tuple #[]) ∧ Tch [b] w w' ∧ Tx n b (.pointer (some ⟨b, 0, none⟩)) v l w' := by
  obtain ⟨h1, h2, h3, h4, h5, h6⟩ := h
  obtain ⟨j, hj, hj0⟩ := size_builder
  have hsh : w.shape? b = some (103, 2) := by simp [World.shape?, h3]
  have c0 : w.cell? ⟨b, 0, none⟩ = some p := cell_of_row _ _ 0 _ _ _ h3
  have f0 : ∀ j, w.frozen? ⟨b, j, none⟩ = false := fun j => frozen_of_row _ _ j _ _ h3
  have lb := lt_of_obj h3
  have H := hid (show Tx n b p v l w from ⟨h1, h2, h3, h4, h5, h6⟩)
  rcases h2 with rfl | rfl
  · have RES : Hid (Tch [b] w (w.setCell ⟨b, 0, none⟩ (.pointer (some ⟨b, 0, none⟩))) ∧ Tx n b (.pointer (some ⟨b, 0, none⟩)) v l (w.setCell ⟨b, 0, none⟩ (.pointer (some ⟨b, 0, none⟩)))) :=
      ⟨(Tch.refl [b] w).setCell (.inl (by simp)) _, h1, .inr rfl, by rw [heap_setCell_same _ _ _ _ _ _ h3]; rfl, h4.kept ((Tch.refl [b] w).setCell (p := ⟨b, 0, none⟩) (.inl (by simp)) _) (fun k hk hm => (h5 k hk).2 (by simpa using hm)), h5, h6⟩
    clear h1 h3 h4 h5 H
    go_enter Tryd.func121, Tryd.ntmps121
    go_wp2
    rw [Lib.run_to_unsafe w ⟨b, 0, none⟩ Tryd.underlying99 Tryd.underlying180 hj hj0 hsh (Nat.zero_lt_succ 1)]
    simp only [Result.andThen]
    rw [Oper.upon_value]
    go_wp2
    rw [run_callFunc_extern Tryd.func125 (by kernel_rfl) (by kernel_rfl) (by kernel_rfl) (e := Extern.AbiNoEscape.same) (by kernel_rfl)]
    rw [Lib.run_noEscape]
    simp only [Result.andThen]
    rw [Oper.upon_value]
    go_wp2
    rw [Lib.run_from_unsafe w ⟨b, 0, none⟩ Tryd.underlying180 Tryd.underlying99 hj hsh lies_text]
    simp only [Result.andThen]
    rw [Oper.upon_value]
    go_wp2
    go_end0
    exact ⟨rfl, RES.out⟩
  · clear h1 h3 h4 h5
    go_enter Tryd.func121, Tryd.ntmps121
    go_wp2
    rw [Lib.run_neq_ptr_same w _ Tryd.underlying99 hj]
    go_wp2
    go_end0
    exact ⟨rfl, Tch.refl _ _, H.out⟩
/-- What was put behind what was there: what else lay is as it was. -/
def Put (n b : Nat) (v : Value) (l : List UInt8) (w w' : World) : Prop :=
  ∃ a c, Tch (b :: blks v) w w' ∧ Tx n b (.pointer (some ⟨b, 0, none⟩)) (.slice a l.length c) l w' ∧ ∀ k ∈ blks (.slice a l.length c), k ∈ blks v ∨ w.heap.size ≤ k
set_option maxRecDepth 100000 in
set_option maxHeartbeats 4000000 in
theorem writeString_tx {n b : Nat} {p v : Value} {l : List UInt8} (m : List UInt8) (w : World) (h : Tx n b p v l w) (hlen : l.length + m.length ≤ 1000000000) :
    Calls Tryd.prog 109 #[.pointer (some ⟨b, 0, none⟩), .string (bytesOf m)] w fun e w' => (∃ k, e = .returned (.tuple #[.int .i64 k, .nilIface])) ∧ Put n b v (l ++ m) w w' := by
  have H := hid h
  have hbs := bytes_size m
  have hms : (bytesOf m).size ≤ 1000000000 := by omega
  clear h
  go_enter Tryd.func109, Tryd.ntmps109
  go_upto_region 2 with (go_at_call 121; refine (copyCheck_tx _ H.out).mono ?_; rintro e w1 ⟨rfl, t1, h1⟩; have H1 := hid h1; have T1 := hid t1; clear h1 t1)
  have o1 := H1.out.o
  obtain ⟨va, vc, hv⟩ := H1.out.s.shape
  subst hv
  have c1 : w1.cell? ⟨b, 1, none⟩ = some (.slice va l.length vc) := cell_of_row _ _ 1 _ _ _ o1
  have lb : b < w1.heap.size := lt_of_obj o1
  clear o1
  go_wp2_with (at_builtin; refine wpList_append_s _ rfl _ _ 25 9 rfl Tryd.underlying25 Tryd.underlying9 info_u8 rfl (by decide) (.slice va l.length vc) rfl H1.out.s (bytesOf m) rfl (by omega) ?_; intro v2 w2 hs2 ht2 hb2 hf2; rw [u8c_bytes, u8c_app, hbs, ← List.length_append] at hs2; obtain ⟨va2, vc2, hv2⟩ := hs2.shape; subst hv2; have o2 := ht2.obj H1.out.o (fun hm => (H1.out.d b hm).2 rfl); have c2 : w2.cell? ⟨b, 1, none⟩ = some (.slice va l.length vc) := cell_of_row _ _ 1 _ _ _ o2; have f2 : ∀ j, w2.frozen? ⟨b, j, none⟩ = false := (fun j => frozen_of_row _ _ j _ _ o2); have l2 := lt_of_obj o2; have O2 := hid o2; have S2 := hid hs2; have T2 := hid ht2; have B2 := hid hb2; have OF2 := hid hf2; clear hf2 hs2 ht2 hb2 o2 c1 lb)
  go_ret2
  refine ⟨⟨_, rfl⟩, va2, vc2, ?_, ⟨H1.out.nb, .inr rfl, by rw [heap_setCell_same _ _ _ _ _ _ O2.out, List.length_append]; rfl, ?_, ?_, OF2.out H1.out.z⟩, ?_⟩
  · exact ((T1.out.mono (by simp)).trans2 T2.out (fun x hx => .inl (by simp [hx]))).setCell (.inl (by simp)) _
  · refine S2.out.kept ((Tch.refl [b] w2).setCell (p := ⟨b, 1, none⟩) (.inl (by simp)) _) (fun k hk hm => ?_)
    simp at hm
    subst hm
    rcases B2.out k hk with h | h
    · exact (H1.out.d k h).2 rfl
    · have := (H1.out.lt).1; omega
  · intro k hk
    rcases B2.out k hk with h | h
    · exact H1.out.d k h
    · have := H1.out.lt.1
      have := H1.out.nb
      exact ⟨by omega, by omega⟩
  · intro k hk
    rcases B2.out k hk with h | h
    · exact .inl h
    · exact .inr (Nat.le_trans T1.out.size h)
theorem cells_u8 : Tryd.prog.cellsOf 5 = 1 := by kernel_rfl
set_option maxRecDepth 100000 in
set_option maxHeartbeats 4000000 in
/-- What was put together. -/
theorem string_tx {n b : Nat} {p v : Value} {l : List UInt8} (w : World) (h : Tx n b p v l w) (h0 : l ≠ []) :
    Calls Tryd.prog 56 #[.pointer (some ⟨b, 0, none⟩)] w fun e w' => e = .returned (.string (bytesOf l)) ∧ Below n w w' := by
  have hl0 : 0 < l.length := List.length_pos_iff.2 h0
  obtain ⟨h1, h2, h3, h4, h5, h6⟩ := h
  obtain ⟨hlen, ⟨_, h7⟩ | ⟨g, off, cap, cur, rfl, g1, g2, g3, g4, g5⟩⟩ := h4
  · omega
  obtain rfl : off = 0 := h6.1
  have hgn := (h5 g (by simp [blks])).1
  have c1 : w.drew.cell? ⟨b, 1, none⟩ = some (.slice (some ⟨g, 0, none⟩) l.length cap) := cell_of_row w b 1 _ _ _ h3
  have hSD : (Builtin.unsafeSliceData_ #[25] 146 #[.slice (some ⟨g, 0, none⟩) l.length cap]).run Tryd.prog w.drew = .ok (.pointer (some ⟨g, 0, none⟩)) w.drew :=
    Lib.run_unsafeSliceData_row _ _ _ _ _ _ (by omega)
  have hUS : (Builtin.unsafeString_ #[146, 3] 9 #[.pointer (some ⟨g, 0, none⟩), .int .i64 l.length]).run Tryd.prog w.drew = .ok (.string ⟨l.toArray⟩) (w.drew.freeze ⟨g, 0, none⟩ l.length) := by
    refine Lib.run_unsafeString_row w.drew 146 3 9 5 Tryd.underlying146 cells_u8 g cur.size (by have hg' : w.drew.heap[g]? = some (.cells cur 5 (0, 0)) := g1; simp [World.shape?, hg']) l h0 (by omega) (by unfold maxLen at g3; omega) ?_
    intro j x hx
    rw [Addr.add_lit]
    have hj : j < l.length := (List.getElem?_eq_some_iff.1 hx).1
    have h8 := g5 j (by rw [hlen]; omega)
    rw [show (u8c l)[j]? = some (.int .u8 x.toNat) by simp [u8c, hx]] at h8
    exact (cell_of_row w g (0 + j) cur 5 (0, 0) g1).trans h8
  have lb : b < w.heap.size := lt_of_obj h3
  have RES : Hid (Below n w (w.drew.freeze ⟨g, 0, none⟩ l.length)) := Lib.below_freeze (Below.drew (Below.refl n w)) (p := ⟨g, 0, none⟩) hgn _
  clear h3 h5 h6 g1 g2 g3 g4 g5 hlen
  have hm : Tryd.prog.follows .mixedOrders = true := by kernel_rfl
  go_enter Tryd.func56, Tryd.ntmps56
  go_wp2
  go_region_o
  all_goals (go_wp2; go_ret; exact ⟨rfl, RES.out⟩)
end Go.Proofs.YtbdjpmmbnlmkhaaDoor


/- Numbers as texts, laid at this program. -/
set_option linter.unusedSimpArgs false
set_option linter.unusedVariables false
namespace Go.Proofs
open Go.Shelf

shelf_lay LaysM.n171 Nm 171 at Tryd as Tryd.laysIt
shelf_lay LaysM.n173 Nm 173 at Tryd as Tryd.laysF2
namespace YtbdjpmmbnlmkhaaDoor
open Go.RowKit Go.Sort

/-- The table of powers lies as it was laid. -/
def Pw (w : World) : Prop := Lib.TabIs Tryd.prog w "internal/strconv.uint64pow10" .u64 Lib.pow10Tab
theorem Pw.tch {w w' : World} {S : List Nat} (h : Pw w) (t : Tch S w w') (hS : ∀ g, Tryd.prog.globalNamed "internal/strconv.uint64pow10" = some g → ¬ g ∈ S) : Pw w' := by
  unfold Pw Lib.TabIs World.var? at h ⊢
  cases hg : Tryd.prog.globalNamed "internal/strconv.uint64pow10" with
  | none => rw [hg] at h; simp at h
  | some g =>
    rw [hg] at h
    simp only [Option.bind_some] at h ⊢
    cases ho : w.heap[g]? with
    | none => rw [ho] at h; simp at h
    | some o => rw [t.block g (lt_of_obj ho) (hS g hg), ho]; rw [ho] at h; exact h
theorem itoa_s (n : Int) (h0 : -9223372036854775808 ≤ n) (h1 : n ≤ 9223372036854775807) (w : World) (hE : Pw w) :
    Calls Tryd.prog 110 #[.int .i64 n] w fun e w' => e = .returned (.string (bytesOf (Lib.itoa n))) ∧ Gr w w' :=
  (Any.strconv_Itoa Tryd.laysIt n h0 h1 w hE).mono fun e w' ⟨he, k, os, hw⟩ => ⟨he, by rw [hw]; exact gr_grow w k os⟩
theorem format_s (n : Int) (h0 : -9223372036854775808 ≤ n) (h1 : n ≤ 9223372036854775807) (w : World) (hE : Pw w) :
    Calls Tryd.prog 111 #[.int .i64 n, .int .i64 10] w fun e w' => e = .returned (.string (bytesOf (Lib.itoa n))) ∧ Gr w w' :=
  (Any.strconv_FormatInt_10 Tryd.laysF2 n h0 h1 w hE).mono fun e w' ⟨he, k, os, hw⟩ => ⟨he, by rw [hw]; exact gr_grow w k os⟩
end YtbdjpmmbnlmkhaaDoor
end Go.Proofs


/- show's put: texts and numbers, one behind the other. -/
set_option linter.unusedSimpArgs false
set_option linter.unusedVariables false
namespace Go.Proofs.YtbdjpmmbnlmkhaaDoor
open Go.RowKit Go.Sort

/-- What may be put: a text, an int, an int64. -/
inductive Pt where
  | s (l : List UInt8)
  | i (m : Int)
  | q (m : Int)
def Pt.val : Pt → Value
  | .s l => .iface 9 (.string (bytesOf l))
  | .i m => .iface 3 (.int .i64 m)
  | .q m => .iface 2 (.int .i64 m)
def Pt.txt : Pt → List UInt8
  | .s l => l
  | .i m => Lib.itoa m
  | .q m => Lib.itoa m
def Pt.ok : Pt → Prop
  | .s _ => True
  | .i m => -9223372036854775808 ≤ m ∧ m ≤ 9223372036854775807
  | .q m => -9223372036854775808 ≤ m ∧ m ≤ 9223372036854775807
def ptsT (ps : List Pt) : List UInt8 := ps.flatMap Pt.txt
theorem ptsT_snoc {ps : List Pt} {k : Nat} {x : Pt} (h : ps[k]? = some x) : ptsT (ps.take (k + 1)) = ptsT (ps.take k) ++ x.txt := by
  obtain ⟨hi, rfl⟩ := List.getElem?_eq_some_iff.1 h
  unfold ptsT
  rw [List.take_succ_eq_append_getElem hi, List.flatMap_append]
  simp
theorem ptsT_le (ps : List Pt) (k : Nat) : (ptsT (ps.take k)).length ≤ (ptsT ps).length := by
  conv => rhs; rw [← List.take_append_drop k ps]
  unfold ptsT
  rw [List.flatMap_append, List.length_append]
  omega
/-- The powers' table lies ahead of n. -/
def PwN (n : Nat) : Prop := ∀ g, Tryd.prog.globalNamed "internal/strconv.uint64pow10" = some g → g < n
/-- So far put. -/
structure PSt (n b : Nat) (v : Value) (w : World) (p : Value) (a : Option Addr) (c : Nat) (l : List UInt8) (wr : World) : Prop where
  t : Tch (b :: blks v) w wr
  x : Tx n b p (.slice a l.length c) l wr
  k : ∀ j ∈ blks (.slice a l.length c), j ∈ blks v ∨ w.heap.size ≤ j
theorem PSt.gr {n b : Nat} {v : Value} {w : World} {p : Value} {a : Option Addr} {c : Nat} {l : List UInt8} {wr wq : World} (h : PSt n b v w p a c l wr) (t : Tch [] wr wq) : PSt n b v w p a c l wq :=
  ⟨h.t.trans2 t (by simp), h.x.tch t (by simp), h.k⟩
theorem PSt.put {n b : Nat} {v : Value} {w : World} {p : Value} {a : Option Addr} {c : Nat} {l m : List UInt8} {wr wq : World} (h : PSt n b v w p a c l wr) (q : Put n b (.slice a l.length c) (l ++ m) wr wq) : ∃ a' c', PSt n b v w (.pointer (some ⟨b, 0, none⟩)) a' c' (l ++ m) wq := by
  obtain ⟨a', c', t, x, k⟩ := q
  have hsz := h.t.size
  refine ⟨a', c', h.t.trans2 t (fun y hy => ?_), x, fun j hj => ?_⟩
  · rcases List.mem_cons.1 hy with rfl | hy
    · exact .inl (by simp)
    · rcases h.k y hy with h1 | h1
      · exact .inl (by simp [h1])
      · exact .inr h1
  · rcases k j hj with h1 | h1
    · exact h.k j h1
    · exact .inr (by omega)
theorem PSt.pw {n b : Nat} {v : Value} {w : World} {p : Value} {a : Option Addr} {c : Nat} {l : List UInt8} {wr : World} (h : PSt n b v w p a c l wr) (hE : Pw w) (hn : PwN n) (hv : ∀ k ∈ blks v, n ≤ k) : Pw wr :=
  hE.tch h.t (fun g hg hm => by
    have := hn g hg
    rcases List.mem_cons.1 hm with rfl | hm
    · have := h.x.nb; omega
    · have := hv g hm; omega)
theorem as_ss (x : Value) : ∀ w, Sem.run Tryd.prog (Instr.typeAssert (.iface 9 x) 20 9 true) w = .ok (.tuple #[x, .bool true]) w := fun w => by kernel_rfl
theorem as_is (x : Value) : ∀ w, Sem.run Tryd.prog (Instr.typeAssert (.iface 3 x) 20 9 true) w = .ok (.tuple #[.string ⟨#[]⟩, .bool false]) w := fun w => by kernel_rfl
theorem as_ii (x : Value) : ∀ w, Sem.run Tryd.prog (Instr.typeAssert (.iface 3 x) 20 3 true) w = .ok (.tuple #[x, .bool true]) w := fun w => by kernel_rfl
theorem as_ns (x : Value) : ∀ w, Sem.run Tryd.prog (Instr.typeAssert (.iface 2 x) 20 9 true) w = .ok (.tuple #[.string ⟨#[]⟩, .bool false]) w := fun w => by kernel_rfl
theorem as_ni (x : Value) : ∀ w, Sem.run Tryd.prog (Instr.typeAssert (.iface 2 x) 20 3 true) w = .ok (.tuple #[.int .i64 0, .bool false]) w := fun w => by kernel_rfl
theorem as_nn (x : Value) : ∀ w, Sem.run Tryd.prog (Instr.typeAssert (.iface 2 x) 20 2 true) w = .ok (.tuple #[x, .bool true]) w := fun w => by kernel_rfl
set_option maxRecDepth 100000 in
set_option maxHeartbeats 8000000 in
theorem put_tx {n b : Nat} {p v : Value} {l : List UInt8} (ps : List Pt) (w : World) (h : Tx n b p v l w) (pk : Nat) (hpk : ∀ j u, (ps.map Pt.val)[j]? = some u → w.cell? ⟨pk, j, none⟩ = some u) (hk1 : ¬ pk = b) (hk2 : ¬ pk ∈ blks v) (hE : Pw w) (hN : PwN n) (hok : ∀ x ∈ ps, x.ok) (h0 : ps ≠ []) (hln : ps.length ≤ 100) (hlen : l.length + (ptsT ps).length ≤ 1000000000) :
    Calls Tryd.prog 88 #[.pointer (some ⟨b, 0, none⟩), .slice (some ⟨pk, 0, none⟩) ps.length ps.length] w fun e w' => e = .returned (.tuple #[]) ∧ Put n b v (l ++ ptsT ps) w w' := by
  have hm : Tryd.prog.follows .mixedOrders = true := by kernel_rfl
  have hpos : 0 < ps.length := List.length_pos_iff.2 h0
  obtain ⟨va, vc, hv⟩ := h.s.shape
  subst hv
  have HD := hid (fun k hk => (h.d k hk).1)
  have HP := hid hpk
  have HO := hid hok
  have HE := hid hE
  have HN := hid hN
  have H2 := hid hk2
  have ST : Hid (PSt n b (.slice va l.length vc) w p va vc (l ++ ptsT (ps.take 0)) w) := by
    show PSt _ _ _ _ _ _ _ _ _
    rw [show l ++ ptsT (ps.take 0) = l by simp [ptsT]]
    exact ⟨Tch.refl _ _, h, fun j hj => .inl hj⟩
  clear h hpk hok hE hN hk2 h0
  go_enter Tryd.func88, Tryd.ntmps88
  go_wp2_with fail
  go_loopw [5, 6, 7, 8, 11] (fun _ _ _ _ vi wr => ∃ (k : Nat) (p' : Value) (a : Option Addr) (c : Nat), vi = .int .i64 k ∧ k ≤ ps.length ∧ Hid (0 < k → p' = .pointer (some ⟨b, 0, none⟩)) ∧ Hid (PSt n b (.slice va l.length vc) w p' a c (l ++ ptsT (ps.take k)) wr)) (fun _ _ _ _ vi _ => ps.length - (intOf vi).toNat)
  case atStart => exact ⟨0, p, va, vc, rfl, Nat.zero_le _, fun h => absurd h (by omega), ST.out⟩
  case round =>
    clear ST
    obtain ⟨k, p', a, c, rfl, hk, HPP, HS⟩ := hrel
    by_cases hlt : k < ps.length
    · obtain ⟨x, hx⟩ : ∃ x, ps[k]? = some x := ⟨ps[k], by simp [hlt]⟩
      have hc : wr.cell? ⟨pk, k, none⟩ = some x.val := by
        have hw := HP.out k x.val (by rw [List.getElem?_map, hx]; rfl)
        have hlp : pk < w.heap.size := cell_lt hw
        unfold World.cell? at hw ⊢
        rw [HS.out.t.block pk hlp (fun hmm => by
          rcases List.mem_cons.1 hmm with e | e
          · exact hk1 e
          · exact H2.out e)]
        exact hw
      have lpk : pk < wr.heap.size := cell_lt hc
      have hxo := HO.out x (List.mem_of_getElem? hx)
      have hln2 : (l ++ ptsT (ps.take k)).length + x.txt.length ≤ 1000000000 := by
        have h1 := ptsT_le ps (k + 1)
        rw [ptsT_snoc hx, List.length_append] at h1
        rw [List.length_append]
        omega
      have HSN := hid (ptsT_snoc hx)
      have HPW := hid (HS.out.pw HE.out HN.out HD.out)
      have REL : Hid (∀ wq, (∃ a' c', PSt n b (.slice va l.length vc) w (.pointer (some ⟨b, 0, none⟩)) a' c' ((l ++ ptsT (ps.take k)) ++ x.txt) wq) → ∃ a' c', PSt n b (.slice va l.length vc) w (.pointer (some ⟨b, 0, none⟩)) a' c' (l ++ ptsT (ps.take (k + 1))) wq) := fun wq h => by rw [HSN.out, ← List.append_assoc]; exact h
      clear hx
      generalize l ++ ptsT (ps.take k) = lk at *
      cases x with
      | s m =>
        dsimp only [Pt.val, Pt.txt] at *
        have a1 := as_ss (.string (bytesOf m))
        go_wp2_with (go_at_call 109; refine (writeString_tx m _ HS.out.x hln2).mono ?_; rintro e w2 ⟨⟨kk, rfl⟩, q⟩; have HQ := hid (REL.out _ (HS.out.put q)); clear q)
        obtain ⟨a', c', hq⟩ := HQ.out
        go_roundw
        case rel => exact ⟨k + 1, _, a', c', by go_num, by omega, fun _ => rfl, hq⟩
        case measure => simp [intOf]; omega
      | i m =>
        dsimp only [Pt.val, Pt.txt, Pt.ok] at *
        have a1 := as_is (.int .i64 m)
        have a2 := as_ii (.int .i64 m)
        go_upto_region 9 with fail
        replace HS := hid (HS.out.gr ((Tch.refl [] wr).drew))
        replace HPW := hid (show Pw wr.drew from HPW.out)
        refine wp_region_noPanic ?_
        refine wp_region_any hm ?_
        show wpAny _ _ _ _ _ _ _ wr.drew
        generalize wr.drew = wd at HS HPW ⊢
        refine wpAny_take (i := 0) (oi := { dst := some 27, op := Go.Op.move (Go.Operand.tmp 0), type := 144, pos := "text.go:22", after := #[], guard := none }) (v := ?_) rfl (by kernel_rfl) (by kernel_rfl) (by kernel_rfl) (fun _ _ _ h => h) (Or.inl ⟨by rfl, ?_⟩) ?_
        rotate_left
        (intro w; go_simp; try (with_reducible rfl))
        simp only [Act.put, List.setIfInBounds_toArray, List.set_cons_zero, List.set_cons_succ]
        refine wpAny_take (i := 1) (oi := { dst := some 28, op := Go.Op.nilCheck (Go.Operand.tmp 27), type := 0, pos := "text.go:22", after := #[{ on := 0, ground := Go.Ground.data }], guard := none }) (v := ?_) rfl (by kernel_rfl) (by kernel_rfl) (by kernel_rfl) (fun _ _ _ h => h) (Or.inl ⟨by rfl, ?_⟩) ?_
        rotate_left
        (intro w; go_simp; try (with_reducible rfl))
        simp only [Act.put, List.setIfInBounds_toArray, List.set_cons_zero, List.set_cons_succ]
        refine wpAny_take (i := 2) (oi := { dst := some 29, op := Go.Op.fieldAddr 103 (Go.Operand.tmp 28) 0, type := 0, pos := "text.go:22", after := #[{ on := 1, ground := Go.Ground.data }], guard := none }) (v := ?_) rfl (by kernel_rfl) (by kernel_rfl) (by kernel_rfl) (fun _ _ _ h => h) (Or.inl ⟨by rfl, ?_⟩) ?_
        rotate_left
        (intro w; go_simp; try (with_reducible rfl))
        simp only [Act.put, List.setIfInBounds_toArray, List.set_cons_zero, List.set_cons_succ]
        refine wpAny_take (i := 3) (oi := { dst := some 30, op := Go.Op.move (Go.Operand.tmp 7), type := 3, pos := "text.go:22", after := #[], guard := none }) (v := ?_) rfl (by kernel_rfl) (by kernel_rfl) (by kernel_rfl) (fun _ _ _ h => h) (Or.inl ⟨by rfl, ?_⟩) ?_
        rotate_left
        (intro w; go_simp; try (with_reducible rfl))
        simp only [Act.put, List.setIfInBounds_toArray, List.set_cons_zero, List.set_cons_succ]
        refine wpAny_ready (rs := [4]) (by kernel_rfl) (by simp) (AllReady.cons (o := { dst := some 31, op := Go.Op.call { callee := Go.Callee.value (Go.Operand.func 110), args := #[Go.Operand.tmp 30], argTypes := #[3] }, type := 9, pos := "text.go:22", after := #[{ on := 3, ground := Go.Ground.data }], guard := none }) rfl (fun K hK => ?_) AllReady.nil)
        go_simp
        go_at_call 110
        refine (itoa_s m hxo.1 hxo.2 _ HPW.out).mono ?_
        rintro e w1 ⟨rfl, g1⟩
        have HS1 := hid (HS.out.gr g1.tch)
        clear g1
        go_simp
        refine hK _ _ ?_
        clear hK K
        try simp only [Act.put, List.setIfInBounds_toArray, List.set_cons_zero, List.set_cons_succ]
        refine wpAny_ready (rs := [5]) (by kernel_rfl) (by simp) (AllReady.cons (o := { dst := some 32, op := Go.Op.call { callee := Go.Callee.value (Go.Operand.func 109), args := #[Go.Operand.tmp 29, Go.Operand.tmp 31], argTypes := #[101, 9] }, type := 167, pos := "text.go:22", after := #[{ on := 2, ground := Go.Ground.data }, { on := 4, ground := Go.Ground.data }, { on := 4, ground := Go.Ground.chain }], guard := none }) rfl (fun K hK => ?_) AllReady.nil)
        go_simp
        go_at_call 109
        refine (writeString_tx (Lib.itoa m) _ HS1.out.x hln2).mono ?_
        rintro e w2 ⟨⟨kk, rfl⟩, q⟩
        have HQ := hid (REL.out _ (HS1.out.put q))
        clear q
        go_simp
        refine hK _ _ ?_
        clear hK K
        try simp only [Act.put, List.setIfInBounds_toArray, List.set_cons_zero, List.set_cons_succ]
        refine wpAny_done (by kernel_rfl) (NoPanic.normal ?_) _
        go_simp
        go_wp2_with fail
        obtain ⟨a', c', hq⟩ := HQ.out
        go_roundw
        case rel => exact ⟨k + 1, _, a', c', by go_num, by omega, fun _ => rfl, hq⟩
        case measure => simp [intOf]; omega
      | q m =>
        dsimp only [Pt.val, Pt.txt, Pt.ok] at *
        have a1 := as_ns (.int .i64 m)
        have a2 := as_ni (.int .i64 m)
        have a3 := as_nn (.int .i64 m)
        go_upto_region 12 with fail
        replace HS := hid (HS.out.gr ((Tch.refl [] wr).drew))
        replace HPW := hid (show Pw wr.drew from HPW.out)
        refine wp_region_noPanic ?_
        refine wp_region_any hm ?_
        show wpAny _ _ _ _ _ _ _ wr.drew
        generalize wr.drew = wd at HS HPW ⊢
        refine wpAny_take (i := 0) (oi := { dst := some 36, op := Go.Op.move (Go.Operand.tmp 0), type := 144, pos := "text.go:24", after := #[], guard := none }) (v := ?_) rfl (by kernel_rfl) (by kernel_rfl) (by kernel_rfl) (fun _ _ _ h => h) (Or.inl ⟨by rfl, ?_⟩) ?_
        rotate_left
        (intro w; go_simp; try (with_reducible rfl))
        simp only [Act.put, List.setIfInBounds_toArray, List.set_cons_zero, List.set_cons_succ]
        refine wpAny_take (i := 1) (oi := { dst := some 37, op := Go.Op.nilCheck (Go.Operand.tmp 36), type := 0, pos := "text.go:24", after := #[{ on := 0, ground := Go.Ground.data }], guard := none }) (v := ?_) rfl (by kernel_rfl) (by kernel_rfl) (by kernel_rfl) (fun _ _ _ h => h) (Or.inl ⟨by rfl, ?_⟩) ?_
        rotate_left
        (intro w; go_simp; try (with_reducible rfl))
        simp only [Act.put, List.setIfInBounds_toArray, List.set_cons_zero, List.set_cons_succ]
        refine wpAny_take (i := 2) (oi := { dst := some 38, op := Go.Op.fieldAddr 103 (Go.Operand.tmp 37) 0, type := 0, pos := "text.go:24", after := #[{ on := 1, ground := Go.Ground.data }], guard := none }) (v := ?_) rfl (by kernel_rfl) (by kernel_rfl) (by kernel_rfl) (fun _ _ _ h => h) (Or.inl ⟨by rfl, ?_⟩) ?_
        rotate_left
        (intro w; go_simp; try (with_reducible rfl))
        simp only [Act.put, List.setIfInBounds_toArray, List.set_cons_zero, List.set_cons_succ]
        refine wpAny_take (i := 3) (oi := { dst := some 39, op := Go.Op.move (Go.Operand.tmp 8), type := 2, pos := "text.go:24", after := #[], guard := none }) (v := ?_) rfl (by kernel_rfl) (by kernel_rfl) (by kernel_rfl) (fun _ _ _ h => h) (Or.inl ⟨by rfl, ?_⟩) ?_
        rotate_left
        (intro w; go_simp; try (with_reducible rfl))
        simp only [Act.put, List.setIfInBounds_toArray, List.set_cons_zero, List.set_cons_succ]
        refine wpAny_ready (rs := [4]) (by kernel_rfl) (by simp) (AllReady.cons (o := { dst := some 40, op := Go.Op.call { callee := Go.Callee.value (Go.Operand.func 111), args := #[Go.Operand.tmp 39, Go.Operand.const (Go.Value.int Go.IntKind.i64 10)], argTypes := #[2, 3] }, type := 9, pos := "text.go:24", after := #[{ on := 3, ground := Go.Ground.data }], guard := none }) rfl (fun K hK => ?_) AllReady.nil)
        go_simp
        go_at_call 111
        refine (format_s m hxo.1 hxo.2 _ HPW.out).mono ?_
        rintro e w1 ⟨rfl, g1⟩
        have HS1 := hid (HS.out.gr g1.tch)
        clear g1
        go_simp
        refine hK _ _ ?_
        clear hK K
        try simp only [Act.put, List.setIfInBounds_toArray, List.set_cons_zero, List.set_cons_succ]
        refine wpAny_ready (rs := [5]) (by kernel_rfl) (by simp) (AllReady.cons (o := { dst := some 41, op := Go.Op.call { callee := Go.Callee.value (Go.Operand.func 109), args := #[Go.Operand.tmp 38, Go.Operand.tmp 40], argTypes := #[101, 9] }, type := 167, pos := "text.go:24", after := #[{ on := 2, ground := Go.Ground.data }, { on := 4, ground := Go.Ground.data }, { on := 4, ground := Go.Ground.chain }], guard := none }) rfl (fun K hK => ?_) AllReady.nil)
        go_simp
        go_at_call 109
        refine (writeString_tx (Lib.itoa m) _ HS1.out.x hln2).mono ?_
        rintro e w2 ⟨⟨kk, rfl⟩, q⟩
        have HQ := hid (REL.out _ (HS1.out.put q))
        clear q
        go_simp
        refine hK _ _ ?_
        clear hK K
        try simp only [Act.put, List.setIfInBounds_toArray, List.set_cons_zero, List.set_cons_succ]
        refine wpAny_done (by kernel_rfl) (NoPanic.normal ?_) _
        go_simp
        go_wp2_with fail
        obtain ⟨a', c', hq⟩ := HQ.out
        go_roundw
        case rel => exact ⟨k + 1, _, a', c', by go_num, by omega, fun _ => rfl, hq⟩
        case measure => simp [intOf]; omega
    · obtain rfl : k = ps.length := by omega
      have hp' := HPP.out hpos
      subst hp'
      go_wp2_with fail
      go_end0
      rw [List.take_length] at HS
      exact ⟨rfl, a, c, HS.out.t, HS.out.x, HS.out.k⟩
end Go.Proofs.YtbdjpmmbnlmkhaaDoor


/- show's last. -/
set_option linter.unusedSimpArgs false
set_option linter.unusedVariables false
namespace Go.Proofs.YtbdjpmmbnlmkhaaDoor
open Go.RowKit Go.Sort

theorem parts_new (W : World) (ps : List Pt) : ∀ j u, (ps.map Pt.val)[j]? = some u → (W.alloc (.cells (ps.map Pt.val).toArray 20)).cell? ⟨W.heap.size, j, none⟩ = some u := fun j u hj => by
  rw [cell_of_row _ W.heap.size j _ 20 (0, 0) (heap_alloc_new W _)]
  simpa using hj
theorem Put.pre {n b : Nat} {v : Value} {l : List UInt8} {w w1 w2 : World} (t : Tch [] w w1) (h : Put n b v l w1 w2) : Put n b v l w w2 := by
  obtain ⟨a, c, h1, h2, h3⟩ := h
  exact ⟨a, c, (t.mono (by simp)).trans h1, h2, fun k hk => (h3 k hk).imp id (fun h => Nat.le_trans t.size h)⟩
/-- put of parts that were laid just now. -/
theorem put_new {n b : Nat} {p v : Value} {l : List UInt8} (ps : List Pt) (w W : World) (h : Tx n b p v l w) (t : Tch [] w W) (hE : Pw w) (hN : PwN n) (hok : ∀ x ∈ ps, x.ok) (h0 : ps ≠ []) (hln : ps.length ≤ 100) (hlen : l.length + (ptsT ps).length ≤ 1000000000) :
    Calls Tryd.prog 88 #[.pointer (some ⟨b, 0, none⟩), .slice (some ⟨W.heap.size, 0, none⟩) ps.length ps.length] (W.alloc (.cells (ps.map Pt.val).toArray 20)) fun e w' => e = .returned (.tuple #[]) ∧ Put n b v (l ++ ptsT ps) w w' := by
  have t2 : Tch [] w (W.alloc (.cells (ps.map Pt.val).toArray 20)) := t.alloc _
  have hl := h.lt
  have hs := t.size
  refine (put_tx ps _ (h.tch t2 (by simp)) W.heap.size (parts_new W ps) (fun e => by omega) (fun hm => by have := hl.2 _ hm; omega) (hE.tch t2 (by simp)) hN hok h0 hln hlen).mono ?_
  rintro e w' ⟨rfl, q⟩
  exact ⟨rfl, q.pre t2⟩
def sJumpT : List UInt8 := [106, 117, 109, 112, 32, 64]
def sBrT : List UInt8 := [98, 114, 32, 37]
def sCoT : List UInt8 := [44, 32, 64]
def sRetT : List UInt8 := [114, 101, 116, 32, 37]
def sTrapT : List UInt8 := [116, 114, 97, 112]
/-- An end's parts. -/
def ptL (e a y n : Int) : List Pt := if e = 0 then [.s sJumpT, .i y] else if e = 1 then [.s sBrT, .i a, .s sCoT, .i y, .s sCoT, .i n] else if e = 2 then [.s sRetT, .i a] else [.s sTrapT]
def W64s (n : Int) : Prop := -9223372036854775808 ≤ n ∧ n ≤ 9223372036854775807
theorem itoa_le (n : Int) (h : W64s n) : (Lib.itoa n).length ≤ 21 := Lib.itoa_length_le n h.1 h.2
set_option maxRecDepth 100000 in
set_option maxHeartbeats 8000000 in
theorem tlast_tx {n b : Nat} {p v : Value} {l : List UInt8} (e a y m : Int) (w : World) (h : Tx n b p v l w) (hE : Pw w) (hN : PwN n) (he : 0 ≤ e ∧ e < 4) (ha : W64s a) (hy : W64s y) (hm : W64s m) (hlen : l.length ≤ 900000000) :
    Calls Tryd.prog 58 #[.pointer (some ⟨b, 0, none⟩), .agg #[.int .u8 e, .int .i64 a, .int .i64 y, .int .i64 m]] w fun r w' => r = .returned (.tuple #[]) ∧ Put n b v (l ++ ptsT (ptL e a y m)) w w' := by
  have hmo : Tryd.prog.follows .mixedOrders = true := by kernel_rfl
  have k1 : Tryd.prog.concrete 9 = true := by kernel_rfl
  have k2 : Tryd.prog.concrete 3 = true := by kernel_rfl
  have la := itoa_le a ha
  have ly := itoa_le y hy
  have lm := itoa_le m hm
  have T0 := hid ((Tch.refl [] w).alloc (.cells #[.int .u8 e, .int .i64 a, .int .i64 y, .int .i64 m] 43))
  have hc : e = 0 ∨ e = 1 ∨ e = 2 ∨ e = 3 := by omega
  clear he
  rcases hc with rfl | rfl | rfl | rfl
  · rw [show ptL 0 a y m = [.s sJumpT, .i y] by simp [ptL]]
    have HQ : Hid (∀ (W : World) (pk : Nat), pk = W.heap.size → Tch [] w W → Calls Tryd.prog 88 #[.pointer (some ⟨b, 0, none⟩), .slice (some ⟨pk, 0, none⟩) 2 2] (W.alloc (.cells #[.iface 9 (.string ⟨#[106, 117, 109, 112, 32, 64]⟩), .iface 3 (.int .i64 y)] 20)) fun r w' => r = .returned (.tuple #[]) ∧ Put n b v (l ++ ptsT [.s sJumpT, .i y]) w w') := fun W pk hpk t => by subst hpk; exact put_new [.s sJumpT, .i y] w W h t hE hN (by intro x hx; simp at hx; rcases hx with rfl | rfl; trivial; exact hy) (by simp) (by simp) (by simp [ptsT, Pt.txt, sJumpT, sBrT, sCoT, sRetT, sTrapT]; omega)
    clear h hE hN la ly lm ha hy hm hlen
    go_enter Tryd.func58, Tryd.ntmps58
    go_wp2_with (go_at_call 88; refine (HQ.out _ _ (by simp) T0.out).mono ?_; rintro r w2 ⟨rfl, q⟩; have HR := hid q; clear q)
    go_end0
    exact ⟨rfl, HR.out⟩
  · rw [show ptL 1 a y m = [.s sBrT, .i a, .s sCoT, .i y, .s sCoT, .i m] by simp [ptL]]
    have HQ : Hid (∀ (W : World) (pk : Nat), pk = W.heap.size → Tch [] w W → Calls Tryd.prog 88 #[.pointer (some ⟨b, 0, none⟩), .slice (some ⟨pk, 0, none⟩) 6 6] (W.alloc (.cells #[.iface 9 (.string ⟨#[98, 114, 32, 37]⟩), .iface 3 (.int .i64 a), .iface 9 (.string ⟨#[44, 32, 64]⟩), .iface 3 (.int .i64 y), .iface 9 (.string ⟨#[44, 32, 64]⟩), .iface 3 (.int .i64 m)] 20)) fun r w' => r = .returned (.tuple #[]) ∧ Put n b v (l ++ ptsT [.s sBrT, .i a, .s sCoT, .i y, .s sCoT, .i m]) w w') := fun W pk hpk t => by subst hpk; exact put_new [.s sBrT, .i a, .s sCoT, .i y, .s sCoT, .i m] w W h t hE hN (by intro x hx; simp at hx; rcases hx with rfl | rfl | rfl | rfl | rfl | rfl <;> first | trivial | exact ha | exact hy | exact hm) (by simp) (by simp) (by simp [ptsT, Pt.txt, sJumpT, sBrT, sCoT, sRetT, sTrapT]; omega)
    clear h hE hN la ly lm ha hy hm hlen
    go_enter Tryd.func58, Tryd.ntmps58
    go_wp2_with (go_at_call 88; refine (HQ.out _ _ (by simp) T0.out).mono ?_; rintro r w2 ⟨rfl, q⟩; have HR := hid q; clear q)
    go_end0
    exact ⟨rfl, HR.out⟩
  · rw [show ptL 2 a y m = [.s sRetT, .i a] by simp [ptL]]
    have HQ : Hid (∀ (W : World) (pk : Nat), pk = W.heap.size → Tch [] w W → Calls Tryd.prog 88 #[.pointer (some ⟨b, 0, none⟩), .slice (some ⟨pk, 0, none⟩) 2 2] (W.alloc (.cells #[.iface 9 (.string ⟨#[114, 101, 116, 32, 37]⟩), .iface 3 (.int .i64 a)] 20)) fun r w' => r = .returned (.tuple #[]) ∧ Put n b v (l ++ ptsT [.s sRetT, .i a]) w w') := fun W pk hpk t => by subst hpk; exact put_new [.s sRetT, .i a] w W h t hE hN (by intro x hx; simp at hx; rcases hx with rfl | rfl; trivial; exact ha) (by simp) (by simp) (by simp [ptsT, Pt.txt, sJumpT, sBrT, sCoT, sRetT, sTrapT]; omega)
    clear h hE hN la ly lm ha hy hm hlen
    go_enter Tryd.func58, Tryd.ntmps58
    go_wp2_with (go_at_call 88; refine (HQ.out _ _ (by simp) T0.out).mono ?_; rintro r w2 ⟨rfl, q⟩; have HR := hid q; clear q)
    go_end0
    exact ⟨rfl, HR.out⟩
  · rw [show ptL 3 a y m = [.s sTrapT] by simp [ptL]]
    have HQ : Hid (∀ (W : World) (pk : Nat), pk = W.heap.size → Tch [] w W → Calls Tryd.prog 88 #[.pointer (some ⟨b, 0, none⟩), .slice (some ⟨pk, 0, none⟩) 1 1] (W.alloc (.cells #[.iface 9 (.string ⟨#[116, 114, 97, 112]⟩)] 20)) fun r w' => r = .returned (.tuple #[]) ∧ Put n b v (l ++ ptsT [.s sTrapT]) w w') := fun W pk hpk t => by subst hpk; exact put_new [.s sTrapT] w W h t hE hN (by intro x hx; simp at hx; subst hx; trivial) (by simp) (by simp) (by simp [ptsT, Pt.txt, sJumpT, sBrT, sCoT, sRetT, sTrapT]; omega)
    clear h hE hN la ly lm ha hy hm hlen
    go_enter Tryd.func58, Tryd.ntmps58
    go_wp2_with (go_at_call 88; refine (HQ.out _ _ (by simp) T0.out).mono ?_; rintro r w2 ⟨rfl, q⟩; have HR := hid q; clear q)
    go_end0
    exact ⟨rfl, HR.out⟩
end Go.Proofs.YtbdjpmmbnlmkhaaDoor


/- show's Last. -/
set_option linter.unusedSimpArgs false
set_option linter.unusedVariables false
namespace Go.Proofs.YtbdjpmmbnlmkhaaDoor
open Go.RowKit Go.Sort

theorem ptL_ne (e a y n : Int) : ptsT (ptL e a y n) ≠ [] := by
  unfold ptL
  split
  · simp [ptsT, Pt.txt, sJumpT]
  split
  · simp [ptsT, Pt.txt, sBrT]
  split
  · simp [ptsT, Pt.txt, sRetT]
  · simp [ptsT, Pt.txt, sTrapT]
set_option maxRecDepth 100000 in
set_option maxHeartbeats 8000000 in
/-- **Last**, printed. -/
theorem slast_any (e a y m : Int) (w : World) (hE : Pw w) (hN : PwN w.heap.size) (he : 0 ≤ e ∧ e < 4) (ha : W64s a) (hy : W64s y) (hm : W64s m) :
    Calls Tryd.prog 16 #[.agg #[.int .u8 e, .int .i64 a, .int .i64 y, .int .i64 m]] w fun r w' => r = .returned (.string (bytesOf (ptsT (ptL e a y m)))) ∧ Below w.heap.size w w' := by
  have T0 := hid ((Tch.refl [] w).alloc (.cells #[.int .u8 e, .int .i64 a, .int .i64 y, .int .i64 m] 43))
  have hx := tx_new (n := w.heap.size) (w.alloc (.cells #[.int .u8 e, .int .i64 a, .int .i64 y, .int .i64 m] 43)) (by simp)
  simp only [World.size_alloc] at hx
  have T1 := hid (T0.out.alloc (.cells #[.pointer none, .slice none 0 0] 103))
  have HQ := hid (tlast_tx e a y m _ hx (hE.tch T1.out (by simp)) hN he ha hy hm (by simp))
  have HNE := hid (ptL_ne e a y m)
  clear hx hE hN
  go_enter Tryd.func16, Tryd.ntmps16
  go_wp2_with (first
    | (go_at_call 58; refine HQ.out.mono ?_; rintro r w2 ⟨rfl, a2, c2, t2, x2, k2⟩; rw [List.nil_append] at *; have HX := hid x2; have HT := hid (T1.out.trans2 t2 (fun x hx => by simp [blks] at hx; exact .inr (by omega))); clear t2 x2 k2)
    | (go_at_call 56; refine (string_tx _ HX.out HNE.out).mono ?_; rintro r w3 ⟨rfl, b3⟩; have HB := hid ((HT.out.below (Nat.le_refl _) (by simp)).trans b3); clear b3))
  go_ret
  exact ⟨rfl, HB.out⟩
end Go.Proofs.YtbdjpmmbnlmkhaaDoor


/- An op's word. -/
set_option linter.unusedSimpArgs false
set_option linter.unusedVariables false
namespace Go.Proofs.YtbdjpmmbnlmkhaaDoor
open Go.RowKit Go.Sort

set_option maxRecDepth 100000 in
set_option maxHeartbeats 4000000 in
/-- Of an op that is one, its word, as the table has it. -/
theorem name_at (o : Int) (s : ByteArray) (w : World) (h0 : 0 ≤ o) (h1 : o < 12) (hc : w.cell? ⟨1, o.toNat, none⟩ = some (.string s)) :
    Calls Tryd.prog 89 #[.int .u8 o] w fun e w' => e = .returned (.string s) ∧ w' = w := by
  have hl : 1 < w.heap.size := cell_lt hc
  go_enter Tryd.func89, Tryd.ntmps89
  go_wp2_with fail
  go_ret
  exact ⟨rfl, rfl⟩
end Go.Proofs.YtbdjpmmbnlmkhaaDoor


/- show's instr, of all kinds but one. -/
set_option linter.unusedSimpArgs false
set_option linter.unusedVariables false
namespace Go.Proofs.YtbdjpmmbnlmkhaaDoor
open Go.RowKit Go.Sort

theorem put_new2 {n b : Nat} {p v : Value} {l : List UInt8} (ps : List Pt) (W : World) (h : Tx n b p v l W) (hE : Pw W) (hN : PwN n) (hok : ∀ x ∈ ps, x.ok) (h0 : ps ≠ []) (hln : ps.length ≤ 100) (hlen : l.length + (ptsT ps).length ≤ 1000000000) :
    Calls Tryd.prog 88 #[.pointer (some ⟨b, 0, none⟩), .slice (some ⟨W.heap.size, 0, none⟩) ps.length ps.length] (W.alloc (.cells (ps.map Pt.val).toArray 20)) fun e w' => e = .returned (.tuple #[]) ∧ Put n b v (l ++ ptsT ps) W w' :=
  put_new ps W W h (Tch.refl [] W) hE hN hok h0 hln hlen
theorem Put.then {n b : Nat} {v : Value} {l l2 : List UInt8} {w w2 w3 : World} {a : Option Addr} {c : Nat} (t : Tch (b :: blks v) w w2) (k : ∀ k ∈ blks (.slice a l.length c), k ∈ blks v ∨ w.heap.size ≤ k) (q : Put n b (.slice a l.length c) l2 w2 w3) : Put n b v l2 w w3 := by
  obtain ⟨a', c', t', x', k'⟩ := q
  have hs := t.size
  refine ⟨a', c', t.trans2 t' (fun y hy => ?_), x', fun j hj => ?_⟩
  · rcases List.mem_cons.1 hy with rfl | hy
    · exact .inl (by simp)
    · rcases k y hy with h1 | h1
      · exact .inl (by simp [h1])
      · exact .inr h1
  · rcases k' j hj with h1 | h1
    · exact k j h1
    · exact .inr (by omega)
set_option maxRecDepth 100000 in
set_option maxHeartbeats 8000000 in
theorem tinstr_0 {n b : Nat} {p v : Value} {l : List UInt8} (o d a b2 m s : Int) (w : World) (h : Tx n b p v l w) (hE : Pw w) (hN : PwN n) (hK : Kinds w) (hd : W64s d) (ha : W64s a) (hb : W64s b2) (hm : W64s m) (hs : W64s s) (hlen : l.length ≤ 900000000) :
    Calls Tryd.prog 57 #[.pointer (some ⟨b, 0, none⟩), .agg #[.int .u8 0, .int .u8 o, .int .i64 d, .int .i64 a, .int .i64 b2, .int .i64 m, .int .i64 s]] w fun r w' => r = .returned (.tuple #[]) ∧ Put n b v (l ++ ptsT [.s [37], .i d, .s [32, 61, 32], .q m]) w w' := by
  have k1 : Tryd.prog.concrete 9 = true := by kernel_rfl
  have k2 : Tryd.prog.concrete 3 = true := by kernel_rfl
  have k3 : Tryd.prog.concrete 2 = true := by kernel_rfl
  have T0 := hid ((Tch.refl [] w).alloc (.cells #[.int .u8 0, .int .u8 o, .int .i64 d, .int .i64 a, .int .i64 b2, .int .i64 m, .int .i64 s] 39))
  have hne : ¬ w.heap.size = b ∧ ¬ w.heap.size ∈ blks v := ⟨fun e => by have := h.lt.1; omega, fun e => by have := h.lt.2 _ e; omega⟩
  have HNE := hid hne
  have hset := sets_any 0 (by omega) o d a b2 m s (w.alloc (.cells #[.int .u8 0, .int .u8 o, .int .i64 d, .int .i64 a, .int .i64 b2, .int .i64 m, .int .i64 s] 39)) (hK.gr ((Gr.refl w).alloc _))
  rw [show kbb 0 1 = true from rfl, show io 0 1 d = d from rfl] at hset
  have HSE := hid hset
  have ld := itoa_le d hd
  have la := itoa_le a ha
  have lb := itoa_le b2 hb
  have lm := itoa_le m hm
  have ls := itoa_le s hs
  have HQ1 : Hid (∀ (W : World) (pk : Nat), pk = W.heap.size → Tch [] w W → Calls Tryd.prog 88 #[.pointer (some ⟨b, 0, none⟩), .slice (some ⟨pk, 0, none⟩) 3 3] (W.alloc (.cells #[.iface 9 (.string ⟨#[37]⟩), .iface 3 (.int .i64 d), .iface 9 (.string ⟨#[32, 61, 32]⟩)] 20)) fun r w' => r = .returned (.tuple #[]) ∧ Put n b v (l ++ ptsT [.s [37], .i d, .s [32, 61, 32]]) W w') := fun W pk hpk t => by subst hpk; exact put_new2 [.s [37], .i d, .s [32, 61, 32]] W (h.tch t (by simp)) (hE.tch t (by simp)) hN (by intro x hx; simp only [List.mem_cons, List.not_mem_nil, or_false] at hx; rcases hx with rfl | rfl | rfl <;> first | trivial | exact hd | exact ha | exact hb | exact hm | exact hs) (by simp) (by simp) (by simp [ptsT, Pt.txt]; omega)
  have HQ2 : Hid (∀ (w2 W : World) (pk : Nat) (p2 v2 : Value) (l2 : List UInt8), Tx n b p2 v2 l2 w2 → l2.length ≤ 900000100 → Pw w2 → pk = W.heap.size → Tch [] w2 W → Calls Tryd.prog 88 #[.pointer (some ⟨b, 0, none⟩), .slice (some ⟨pk, 0, none⟩) 1 1] (W.alloc (.cells #[.iface 2 (.int .i64 m)] 20)) fun r w' => r = .returned (.tuple #[]) ∧ Put n b v2 (l2 ++ ptsT [.q m]) w2 w') := fun w2 W pk p2 v2 l2 h2 hl2 hE2 hpk t => by subst hpk; exact put_new [.q m] w2 W h2 t hE2 hN (by intro x hx; simp only [List.mem_cons, List.not_mem_nil, or_false] at hx; subst hx; first | trivial | exact hm) (by simp) (by simp) (by simp [ptsT, Pt.txt]; omega)
  have hl1 : (l ++ ptsT [.s [37], .i d, .s [32, 61, 32]]).length ≤ 900000100 := by simp [ptsT, Pt.txt]; omega
  have HL1 := hid hl1
  have HAP : Hid ((l ++ ptsT [.s [37], .i d, .s [32, 61, 32]]) ++ ptsT [.q m] = l ++ ptsT [.s [37], .i d, .s [32, 61, 32], .q m]) := by show _ = _; simp [ptsT]
  have HPW : Hid (∀ w2, Tch (b :: blks v) w w2 → Pw w2) := fun w2 t => hE.tch t (fun g hg hmm => by
    have := hN g hg
    rcases List.mem_cons.1 hmm with rfl | hmm
    · have := h.nb; omega
    · have := (h.d g hmm).1; omega)
  have O0 := hid (heap_alloc_new w (.cells #[.int .u8 0, .int .u8 o, .int .i64 d, .int .i64 a, .int .i64 b2, .int .i64 m, .int .i64 s] 39))
  clear h hE hN hK hset ld la lb lm ls hd ha hb hm hs hlen hl1 hne
  go_enter Tryd.func57, Tryd.ntmps57
  go_upto_region 3 with (go_at_call 35; refine HSE.out.mono ?_; rintro r w1 ⟨rfl, g1⟩; have T1 := hid (T0.out.trans g1.tch); have O1 := hid (g1.tch.obj O0.out (by simp)); clear g1)
  go_upto_region 4 with (go_at_call 88; refine (HQ1.out _ _ rfl T1.out).mono ?_; rintro r w2 ⟨rfl, a2, c2, t2, x2, q2⟩; have T2 := hid t2; have X2 := hid x2; have B2 := hid q2; clear t2 x2 q2)
  have zz := T2.out.obj O1.out (fun hmm => by
    rcases List.mem_cons.1 hmm with e | e
    · exact HNE.out.1 e
    · exact HNE.out.2 e)
  have z0 := cell_of_row _ _ 0 _ _ _ zz
  have z1 := cell_of_row _ _ 1 _ _ _ zz
  have z2 := cell_of_row _ _ 2 _ _ _ zz
  have z3 := cell_of_row _ _ 3 _ _ _ zz
  have z4 := cell_of_row _ _ 4 _ _ _ zz
  have z5 := cell_of_row _ _ 5 _ _ _ zz
  have z6 := cell_of_row _ _ 6 _ _ _ zz
  simp only [List.getElem?_toArray, List.getElem?_cons_zero, List.getElem?_cons_succ] at z0 z1 z2 z3 z4 z5 z6
  have lz := lt_of_obj zz
  have TW2 := hid ((T1.out.mono (S' := b :: blks v) (by simp)).trans T2.out)
  have HQ3 := hid (fun pk hpk => HQ2.out w2 w2 pk _ _ _ X2.out HL1.out (HPW.out _ TW2.out) hpk (Tch.refl [] w2))
  have RES := hid (fun w3 q => Put.then (n := n) (w3 := w3) (l2 := (l ++ ptsT [.s [37], .i d, .s [32, 61, 32]]) ++ ptsT [.q m]) TW2.out (fun k hk => (B2.out k hk).imp id (fun h => Nat.le_trans T1.out.size h)) q)
  rw [HAP.out] at RES HQ3
  clear zz HQ1 HQ2 X2 B2 HL1 HPW
  go_wp2_with (go_at_call 88; refine (HQ3.out _ rfl).mono ?_; rintro r w3 ⟨rfl, q⟩; have HR := hid (RES.out _ q); clear q)
  go_end0
  exact ⟨rfl, HR.out⟩
set_option maxRecDepth 100000 in
set_option maxHeartbeats 8000000 in
theorem tinstr_1 {n b : Nat} {p v : Value} {l : List UInt8} (o d a b2 m s : Int) (w : World) (h : Tx n b p v l w) (hE : Pw w) (hN : PwN n) (hK : Kinds w) (hd : W64s d) (ha : W64s a) (hb : W64s b2) (hm : W64s m) (hs : W64s s) (hlen : l.length ≤ 900000000) :
    Calls Tryd.prog 57 #[.pointer (some ⟨b, 0, none⟩), .agg #[.int .u8 1, .int .u8 o, .int .i64 d, .int .i64 a, .int .i64 b2, .int .i64 m, .int .i64 s]] w fun r w' => r = .returned (.tuple #[]) ∧ Put n b v (l ++ ptsT [.s [37], .i d, .s [32, 61, 32], .s [37], .i a]) w w' := by
  have k1 : Tryd.prog.concrete 9 = true := by kernel_rfl
  have k2 : Tryd.prog.concrete 3 = true := by kernel_rfl
  have k3 : Tryd.prog.concrete 2 = true := by kernel_rfl
  have T0 := hid ((Tch.refl [] w).alloc (.cells #[.int .u8 1, .int .u8 o, .int .i64 d, .int .i64 a, .int .i64 b2, .int .i64 m, .int .i64 s] 39))
  have hne : ¬ w.heap.size = b ∧ ¬ w.heap.size ∈ blks v := ⟨fun e => by have := h.lt.1; omega, fun e => by have := h.lt.2 _ e; omega⟩
  have HNE := hid hne
  have hset := sets_any 1 (by omega) o d a b2 m s (w.alloc (.cells #[.int .u8 1, .int .u8 o, .int .i64 d, .int .i64 a, .int .i64 b2, .int .i64 m, .int .i64 s] 39)) (hK.gr ((Gr.refl w).alloc _))
  rw [show kbb 1 1 = true from rfl, show io 1 1 d = d from rfl] at hset
  have HSE := hid hset
  have ld := itoa_le d hd
  have la := itoa_le a ha
  have lb := itoa_le b2 hb
  have lm := itoa_le m hm
  have ls := itoa_le s hs
  have HQ1 : Hid (∀ (W : World) (pk : Nat), pk = W.heap.size → Tch [] w W → Calls Tryd.prog 88 #[.pointer (some ⟨b, 0, none⟩), .slice (some ⟨pk, 0, none⟩) 3 3] (W.alloc (.cells #[.iface 9 (.string ⟨#[37]⟩), .iface 3 (.int .i64 d), .iface 9 (.string ⟨#[32, 61, 32]⟩)] 20)) fun r w' => r = .returned (.tuple #[]) ∧ Put n b v (l ++ ptsT [.s [37], .i d, .s [32, 61, 32]]) W w') := fun W pk hpk t => by subst hpk; exact put_new2 [.s [37], .i d, .s [32, 61, 32]] W (h.tch t (by simp)) (hE.tch t (by simp)) hN (by intro x hx; simp only [List.mem_cons, List.not_mem_nil, or_false] at hx; rcases hx with rfl | rfl | rfl <;> first | trivial | exact hd | exact ha | exact hb | exact hm | exact hs) (by simp) (by simp) (by simp [ptsT, Pt.txt]; omega)
  have HQ2 : Hid (∀ (w2 W : World) (pk : Nat) (p2 v2 : Value) (l2 : List UInt8), Tx n b p2 v2 l2 w2 → l2.length ≤ 900000100 → Pw w2 → pk = W.heap.size → Tch [] w2 W → Calls Tryd.prog 88 #[.pointer (some ⟨b, 0, none⟩), .slice (some ⟨pk, 0, none⟩) 2 2] (W.alloc (.cells #[.iface 9 (.string ⟨#[37]⟩), .iface 3 (.int .i64 a)] 20)) fun r w' => r = .returned (.tuple #[]) ∧ Put n b v2 (l2 ++ ptsT [.s [37], .i a]) w2 w') := fun w2 W pk p2 v2 l2 h2 hl2 hE2 hpk t => by subst hpk; exact put_new [.s [37], .i a] w2 W h2 t hE2 hN (by intro x hx; simp only [List.mem_cons, List.not_mem_nil, or_false] at hx; rcases hx with rfl | rfl <;> first | trivial | exact hd | exact ha | exact hb | exact hm | exact hs) (by simp) (by simp) (by simp [ptsT, Pt.txt]; omega)
  have hl1 : (l ++ ptsT [.s [37], .i d, .s [32, 61, 32]]).length ≤ 900000100 := by simp [ptsT, Pt.txt]; omega
  have HL1 := hid hl1
  have HAP : Hid ((l ++ ptsT [.s [37], .i d, .s [32, 61, 32]]) ++ ptsT [.s [37], .i a] = l ++ ptsT [.s [37], .i d, .s [32, 61, 32], .s [37], .i a]) := by show _ = _; simp [ptsT]
  have HPW : Hid (∀ w2, Tch (b :: blks v) w w2 → Pw w2) := fun w2 t => hE.tch t (fun g hg hmm => by
    have := hN g hg
    rcases List.mem_cons.1 hmm with rfl | hmm
    · have := h.nb; omega
    · have := (h.d g hmm).1; omega)
  have O0 := hid (heap_alloc_new w (.cells #[.int .u8 1, .int .u8 o, .int .i64 d, .int .i64 a, .int .i64 b2, .int .i64 m, .int .i64 s] 39))
  clear h hE hN hK hset ld la lb lm ls hd ha hb hm hs hlen hl1 hne
  go_enter Tryd.func57, Tryd.ntmps57
  go_upto_region 3 with (go_at_call 35; refine HSE.out.mono ?_; rintro r w1 ⟨rfl, g1⟩; have T1 := hid (T0.out.trans g1.tch); have O1 := hid (g1.tch.obj O0.out (by simp)); clear g1)
  go_upto_region 4 with (go_at_call 88; refine (HQ1.out _ _ rfl T1.out).mono ?_; rintro r w2 ⟨rfl, a2, c2, t2, x2, q2⟩; have T2 := hid t2; have X2 := hid x2; have B2 := hid q2; clear t2 x2 q2)
  have zz := T2.out.obj O1.out (fun hmm => by
    rcases List.mem_cons.1 hmm with e | e
    · exact HNE.out.1 e
    · exact HNE.out.2 e)
  have z0 := cell_of_row _ _ 0 _ _ _ zz
  have z1 := cell_of_row _ _ 1 _ _ _ zz
  have z2 := cell_of_row _ _ 2 _ _ _ zz
  have z3 := cell_of_row _ _ 3 _ _ _ zz
  have z4 := cell_of_row _ _ 4 _ _ _ zz
  have z5 := cell_of_row _ _ 5 _ _ _ zz
  have z6 := cell_of_row _ _ 6 _ _ _ zz
  simp only [List.getElem?_toArray, List.getElem?_cons_zero, List.getElem?_cons_succ] at z0 z1 z2 z3 z4 z5 z6
  have lz := lt_of_obj zz
  have TW2 := hid ((T1.out.mono (S' := b :: blks v) (by simp)).trans T2.out)
  have HQ3 := hid (fun pk hpk => HQ2.out w2 w2 pk _ _ _ X2.out HL1.out (HPW.out _ TW2.out) hpk (Tch.refl [] w2))
  have RES := hid (fun w3 q => Put.then (n := n) (w3 := w3) (l2 := (l ++ ptsT [.s [37], .i d, .s [32, 61, 32]]) ++ ptsT [.s [37], .i a]) TW2.out (fun k hk => (B2.out k hk).imp id (fun h => Nat.le_trans T1.out.size h)) q)
  rw [HAP.out] at RES HQ3
  clear zz HQ1 HQ2 X2 B2 HL1 HPW
  go_wp2_with (go_at_call 88; refine (HQ3.out _ rfl).mono ?_; rintro r w3 ⟨rfl, q⟩; have HR := hid (RES.out _ q); clear q)
  go_end0
  exact ⟨rfl, HR.out⟩
set_option maxRecDepth 100000 in
set_option maxHeartbeats 8000000 in
theorem tinstr_3 {n b : Nat} {p v : Value} {l : List UInt8} (o d a b2 m s : Int) (w : World) (h : Tx n b p v l w) (hE : Pw w) (hN : PwN n) (hK : Kinds w) (hd : W64s d) (ha : W64s a) (hb : W64s b2) (hm : W64s m) (hs : W64s s) (hlen : l.length ≤ 900000000) :
    Calls Tryd.prog 57 #[.pointer (some ⟨b, 0, none⟩), .agg #[.int .u8 3, .int .u8 o, .int .i64 d, .int .i64 a, .int .i64 b2, .int .i64 m, .int .i64 s]] w fun r w' => r = .returned (.tuple #[]) ∧ Put n b v (l ++ ptsT [.s [37], .i d, .s [32, 61, 32], .s [105, 110]]) w w' := by
  have k1 : Tryd.prog.concrete 9 = true := by kernel_rfl
  have k2 : Tryd.prog.concrete 3 = true := by kernel_rfl
  have k3 : Tryd.prog.concrete 2 = true := by kernel_rfl
  have T0 := hid ((Tch.refl [] w).alloc (.cells #[.int .u8 3, .int .u8 o, .int .i64 d, .int .i64 a, .int .i64 b2, .int .i64 m, .int .i64 s] 39))
  have hne : ¬ w.heap.size = b ∧ ¬ w.heap.size ∈ blks v := ⟨fun e => by have := h.lt.1; omega, fun e => by have := h.lt.2 _ e; omega⟩
  have HNE := hid hne
  have hset := sets_any 3 (by omega) o d a b2 m s (w.alloc (.cells #[.int .u8 3, .int .u8 o, .int .i64 d, .int .i64 a, .int .i64 b2, .int .i64 m, .int .i64 s] 39)) (hK.gr ((Gr.refl w).alloc _))
  rw [show kbb 3 1 = true from rfl, show io 3 1 d = d from rfl] at hset
  have HSE := hid hset
  have ld := itoa_le d hd
  have la := itoa_le a ha
  have lb := itoa_le b2 hb
  have lm := itoa_le m hm
  have ls := itoa_le s hs
  have HQ1 : Hid (∀ (W : World) (pk : Nat), pk = W.heap.size → Tch [] w W → Calls Tryd.prog 88 #[.pointer (some ⟨b, 0, none⟩), .slice (some ⟨pk, 0, none⟩) 3 3] (W.alloc (.cells #[.iface 9 (.string ⟨#[37]⟩), .iface 3 (.int .i64 d), .iface 9 (.string ⟨#[32, 61, 32]⟩)] 20)) fun r w' => r = .returned (.tuple #[]) ∧ Put n b v (l ++ ptsT [.s [37], .i d, .s [32, 61, 32]]) W w') := fun W pk hpk t => by subst hpk; exact put_new2 [.s [37], .i d, .s [32, 61, 32]] W (h.tch t (by simp)) (hE.tch t (by simp)) hN (by intro x hx; simp only [List.mem_cons, List.not_mem_nil, or_false] at hx; rcases hx with rfl | rfl | rfl <;> first | trivial | exact hd | exact ha | exact hb | exact hm | exact hs) (by simp) (by simp) (by simp [ptsT, Pt.txt]; omega)
  have HQ2 : Hid (∀ (w2 W : World) (pk : Nat) (p2 v2 : Value) (l2 : List UInt8), Tx n b p2 v2 l2 w2 → l2.length ≤ 900000100 → Pw w2 → pk = W.heap.size → Tch [] w2 W → Calls Tryd.prog 88 #[.pointer (some ⟨b, 0, none⟩), .slice (some ⟨pk, 0, none⟩) 1 1] (W.alloc (.cells #[.iface 9 (.string ⟨#[105, 110]⟩)] 20)) fun r w' => r = .returned (.tuple #[]) ∧ Put n b v2 (l2 ++ ptsT [.s [105, 110]]) w2 w') := fun w2 W pk p2 v2 l2 h2 hl2 hE2 hpk t => by subst hpk; exact put_new [.s [105, 110]] w2 W h2 t hE2 hN (by intro x hx; simp only [List.mem_cons, List.not_mem_nil, or_false] at hx; subst hx; first | trivial | exact hm) (by simp) (by simp) (by simp [ptsT, Pt.txt]; omega)
  have hl1 : (l ++ ptsT [.s [37], .i d, .s [32, 61, 32]]).length ≤ 900000100 := by simp [ptsT, Pt.txt]; omega
  have HL1 := hid hl1
  have HAP : Hid ((l ++ ptsT [.s [37], .i d, .s [32, 61, 32]]) ++ ptsT [.s [105, 110]] = l ++ ptsT [.s [37], .i d, .s [32, 61, 32], .s [105, 110]]) := by show _ = _; simp [ptsT]
  have HPW : Hid (∀ w2, Tch (b :: blks v) w w2 → Pw w2) := fun w2 t => hE.tch t (fun g hg hmm => by
    have := hN g hg
    rcases List.mem_cons.1 hmm with rfl | hmm
    · have := h.nb; omega
    · have := (h.d g hmm).1; omega)
  have O0 := hid (heap_alloc_new w (.cells #[.int .u8 3, .int .u8 o, .int .i64 d, .int .i64 a, .int .i64 b2, .int .i64 m, .int .i64 s] 39))
  clear h hE hN hK hset ld la lb lm ls hd ha hb hm hs hlen hl1 hne
  go_enter Tryd.func57, Tryd.ntmps57
  go_upto_region 3 with (go_at_call 35; refine HSE.out.mono ?_; rintro r w1 ⟨rfl, g1⟩; have T1 := hid (T0.out.trans g1.tch); have O1 := hid (g1.tch.obj O0.out (by simp)); clear g1)
  go_upto_region 4 with (go_at_call 88; refine (HQ1.out _ _ rfl T1.out).mono ?_; rintro r w2 ⟨rfl, a2, c2, t2, x2, q2⟩; have T2 := hid t2; have X2 := hid x2; have B2 := hid q2; clear t2 x2 q2)
  have zz := T2.out.obj O1.out (fun hmm => by
    rcases List.mem_cons.1 hmm with e | e
    · exact HNE.out.1 e
    · exact HNE.out.2 e)
  have z0 := cell_of_row _ _ 0 _ _ _ zz
  have z1 := cell_of_row _ _ 1 _ _ _ zz
  have z2 := cell_of_row _ _ 2 _ _ _ zz
  have z3 := cell_of_row _ _ 3 _ _ _ zz
  have z4 := cell_of_row _ _ 4 _ _ _ zz
  have z5 := cell_of_row _ _ 5 _ _ _ zz
  have z6 := cell_of_row _ _ 6 _ _ _ zz
  simp only [List.getElem?_toArray, List.getElem?_cons_zero, List.getElem?_cons_succ] at z0 z1 z2 z3 z4 z5 z6
  have lz := lt_of_obj zz
  have TW2 := hid ((T1.out.mono (S' := b :: blks v) (by simp)).trans T2.out)
  have HQ3 := hid (fun pk hpk => HQ2.out w2 w2 pk _ _ _ X2.out HL1.out (HPW.out _ TW2.out) hpk (Tch.refl [] w2))
  have RES := hid (fun w3 q => Put.then (n := n) (w3 := w3) (l2 := (l ++ ptsT [.s [37], .i d, .s [32, 61, 32]]) ++ ptsT [.s [105, 110]]) TW2.out (fun k hk => (B2.out k hk).imp id (fun h => Nat.le_trans T1.out.size h)) q)
  rw [HAP.out] at RES HQ3
  clear zz HQ1 HQ2 X2 B2 HL1 HPW
  go_wp2_with (go_at_call 88; refine (HQ3.out _ rfl).mono ?_; rintro r w3 ⟨rfl, q⟩; have HR := hid (RES.out _ q); clear q)
  go_end0
  exact ⟨rfl, HR.out⟩
set_option maxRecDepth 100000 in
set_option maxHeartbeats 8000000 in
theorem tinstr_4 {n b : Nat} {p v : Value} {l : List UInt8} (o d a b2 m s : Int) (w : World) (h : Tx n b p v l w) (hE : Pw w) (hN : PwN n) (hK : Kinds w) (hd : W64s d) (ha : W64s a) (hb : W64s b2) (hm : W64s m) (hs : W64s s) (hlen : l.length ≤ 900000000) :
    Calls Tryd.prog 57 #[.pointer (some ⟨b, 0, none⟩), .agg #[.int .u8 4, .int .u8 o, .int .i64 d, .int .i64 a, .int .i64 b2, .int .i64 m, .int .i64 s]] w fun r w' => r = .returned (.tuple #[]) ∧ Put n b v (l ++ ptsT [.s [111, 117, 116, 32, 37], .i a]) w w' := by
  have k1 : Tryd.prog.concrete 9 = true := by kernel_rfl
  have k2 : Tryd.prog.concrete 3 = true := by kernel_rfl
  have k3 : Tryd.prog.concrete 2 = true := by kernel_rfl
  have T0 := hid ((Tch.refl [] w).alloc (.cells #[.int .u8 4, .int .u8 o, .int .i64 d, .int .i64 a, .int .i64 b2, .int .i64 m, .int .i64 s] 39))
  have hne : ¬ w.heap.size = b ∧ ¬ w.heap.size ∈ blks v := ⟨fun e => by have := h.lt.1; omega, fun e => by have := h.lt.2 _ e; omega⟩
  have HNE := hid hne
  have hset := sets_any 4 (by omega) o d a b2 m s (w.alloc (.cells #[.int .u8 4, .int .u8 o, .int .i64 d, .int .i64 a, .int .i64 b2, .int .i64 m, .int .i64 s] 39)) (hK.gr ((Gr.refl w).alloc _))
  rw [show kbb 4 1 = false from rfl] at hset
  have HSE := hid hset
  have ld := itoa_le d hd
  have la := itoa_le a ha
  have lb := itoa_le b2 hb
  have lm := itoa_le m hm
  have ls := itoa_le s hs
  have HQ2 : Hid (∀ (W : World) (pk : Nat), pk = W.heap.size → Tch [] w W → Calls Tryd.prog 88 #[.pointer (some ⟨b, 0, none⟩), .slice (some ⟨pk, 0, none⟩) 2 2] (W.alloc (.cells #[.iface 9 (.string ⟨#[111, 117, 116, 32, 37]⟩), .iface 3 (.int .i64 a)] 20)) fun r w' => r = .returned (.tuple #[]) ∧ Put n b v (l ++ ptsT [.s [111, 117, 116, 32, 37], .i a]) w w') := fun W pk hpk t => by subst hpk; exact put_new [.s [111, 117, 116, 32, 37], .i a] w W h t hE hN (by intro x hx; simp only [List.mem_cons, List.not_mem_nil, or_false] at hx; rcases hx with rfl | rfl <;> first | trivial | exact hd | exact ha | exact hb | exact hm | exact hs) (by simp) (by simp) (by simp [ptsT, Pt.txt]; omega)
  have O0 := hid (heap_alloc_new w (.cells #[.int .u8 4, .int .u8 o, .int .i64 d, .int .i64 a, .int .i64 b2, .int .i64 m, .int .i64 s] 39))
  clear h hE hN hK hset ld la lb lm ls hd ha hb hm hs hlen hne
  go_enter Tryd.func57, Tryd.ntmps57
  go_upto_region 4 with (go_at_call 35; refine HSE.out.mono ?_; rintro r w1 ⟨rfl, g1⟩; have T1 := hid (T0.out.trans g1.tch); have O1 := hid (g1.tch.obj O0.out (by simp)); clear g1)
  have zz := O1.out
  have z0 := cell_of_row _ _ 0 _ _ _ zz
  have z1 := cell_of_row _ _ 1 _ _ _ zz
  have z2 := cell_of_row _ _ 2 _ _ _ zz
  have z3 := cell_of_row _ _ 3 _ _ _ zz
  have z4 := cell_of_row _ _ 4 _ _ _ zz
  have z5 := cell_of_row _ _ 5 _ _ _ zz
  have z6 := cell_of_row _ _ 6 _ _ _ zz
  simp only [List.getElem?_toArray, List.getElem?_cons_zero, List.getElem?_cons_succ] at z0 z1 z2 z3 z4 z5 z6
  have lz := lt_of_obj zz
  clear zz
  go_wp2_with (go_at_call 88; refine (HQ2.out _ _ rfl T1.out).mono ?_; rintro r w3 ⟨rfl, q⟩; have HR := hid q; clear q)
  go_end0
  exact ⟨rfl, HR.out⟩
set_option maxRecDepth 100000 in
set_option maxHeartbeats 8000000 in
theorem tinstr_5 {n b : Nat} {p v : Value} {l : List UInt8} (o d a b2 m s : Int) (w : World) (h : Tx n b p v l w) (hE : Pw w) (hN : PwN n) (hK : Kinds w) (hd : W64s d) (ha : W64s a) (hb : W64s b2) (hm : W64s m) (hs : W64s s) (hlen : l.length ≤ 900000000) :
    Calls Tryd.prog 57 #[.pointer (some ⟨b, 0, none⟩), .agg #[.int .u8 5, .int .u8 o, .int .i64 d, .int .i64 a, .int .i64 b2, .int .i64 m, .int .i64 s]] w fun r w' => r = .returned (.tuple #[]) ∧ Put n b v (l ++ ptsT [.s [37], .i d, .s [32, 61, 32], .s [108, 111, 97, 100, 32, 36], .i s]) w w' := by
  have k1 : Tryd.prog.concrete 9 = true := by kernel_rfl
  have k2 : Tryd.prog.concrete 3 = true := by kernel_rfl
  have k3 : Tryd.prog.concrete 2 = true := by kernel_rfl
  have T0 := hid ((Tch.refl [] w).alloc (.cells #[.int .u8 5, .int .u8 o, .int .i64 d, .int .i64 a, .int .i64 b2, .int .i64 m, .int .i64 s] 39))
  have hne : ¬ w.heap.size = b ∧ ¬ w.heap.size ∈ blks v := ⟨fun e => by have := h.lt.1; omega, fun e => by have := h.lt.2 _ e; omega⟩
  have HNE := hid hne
  have hset := sets_any 5 (by omega) o d a b2 m s (w.alloc (.cells #[.int .u8 5, .int .u8 o, .int .i64 d, .int .i64 a, .int .i64 b2, .int .i64 m, .int .i64 s] 39)) (hK.gr ((Gr.refl w).alloc _))
  rw [show kbb 5 1 = true from rfl, show io 5 1 d = d from rfl] at hset
  have HSE := hid hset
  have ld := itoa_le d hd
  have la := itoa_le a ha
  have lb := itoa_le b2 hb
  have lm := itoa_le m hm
  have ls := itoa_le s hs
  have HQ1 : Hid (∀ (W : World) (pk : Nat), pk = W.heap.size → Tch [] w W → Calls Tryd.prog 88 #[.pointer (some ⟨b, 0, none⟩), .slice (some ⟨pk, 0, none⟩) 3 3] (W.alloc (.cells #[.iface 9 (.string ⟨#[37]⟩), .iface 3 (.int .i64 d), .iface 9 (.string ⟨#[32, 61, 32]⟩)] 20)) fun r w' => r = .returned (.tuple #[]) ∧ Put n b v (l ++ ptsT [.s [37], .i d, .s [32, 61, 32]]) W w') := fun W pk hpk t => by subst hpk; exact put_new2 [.s [37], .i d, .s [32, 61, 32]] W (h.tch t (by simp)) (hE.tch t (by simp)) hN (by intro x hx; simp only [List.mem_cons, List.not_mem_nil, or_false] at hx; rcases hx with rfl | rfl | rfl <;> first | trivial | exact hd | exact ha | exact hb | exact hm | exact hs) (by simp) (by simp) (by simp [ptsT, Pt.txt]; omega)
  have HQ2 : Hid (∀ (w2 W : World) (pk : Nat) (p2 v2 : Value) (l2 : List UInt8), Tx n b p2 v2 l2 w2 → l2.length ≤ 900000100 → Pw w2 → pk = W.heap.size → Tch [] w2 W → Calls Tryd.prog 88 #[.pointer (some ⟨b, 0, none⟩), .slice (some ⟨pk, 0, none⟩) 2 2] (W.alloc (.cells #[.iface 9 (.string ⟨#[108, 111, 97, 100, 32, 36]⟩), .iface 3 (.int .i64 s)] 20)) fun r w' => r = .returned (.tuple #[]) ∧ Put n b v2 (l2 ++ ptsT [.s [108, 111, 97, 100, 32, 36], .i s]) w2 w') := fun w2 W pk p2 v2 l2 h2 hl2 hE2 hpk t => by subst hpk; exact put_new [.s [108, 111, 97, 100, 32, 36], .i s] w2 W h2 t hE2 hN (by intro x hx; simp only [List.mem_cons, List.not_mem_nil, or_false] at hx; rcases hx with rfl | rfl <;> first | trivial | exact hd | exact ha | exact hb | exact hm | exact hs) (by simp) (by simp) (by simp [ptsT, Pt.txt]; omega)
  have hl1 : (l ++ ptsT [.s [37], .i d, .s [32, 61, 32]]).length ≤ 900000100 := by simp [ptsT, Pt.txt]; omega
  have HL1 := hid hl1
  have HAP : Hid ((l ++ ptsT [.s [37], .i d, .s [32, 61, 32]]) ++ ptsT [.s [108, 111, 97, 100, 32, 36], .i s] = l ++ ptsT [.s [37], .i d, .s [32, 61, 32], .s [108, 111, 97, 100, 32, 36], .i s]) := by show _ = _; simp [ptsT]
  have HPW : Hid (∀ w2, Tch (b :: blks v) w w2 → Pw w2) := fun w2 t => hE.tch t (fun g hg hmm => by
    have := hN g hg
    rcases List.mem_cons.1 hmm with rfl | hmm
    · have := h.nb; omega
    · have := (h.d g hmm).1; omega)
  have O0 := hid (heap_alloc_new w (.cells #[.int .u8 5, .int .u8 o, .int .i64 d, .int .i64 a, .int .i64 b2, .int .i64 m, .int .i64 s] 39))
  clear h hE hN hK hset ld la lb lm ls hd ha hb hm hs hlen hl1 hne
  go_enter Tryd.func57, Tryd.ntmps57
  go_upto_region 3 with (go_at_call 35; refine HSE.out.mono ?_; rintro r w1 ⟨rfl, g1⟩; have T1 := hid (T0.out.trans g1.tch); have O1 := hid (g1.tch.obj O0.out (by simp)); clear g1)
  go_upto_region 4 with (go_at_call 88; refine (HQ1.out _ _ rfl T1.out).mono ?_; rintro r w2 ⟨rfl, a2, c2, t2, x2, q2⟩; have T2 := hid t2; have X2 := hid x2; have B2 := hid q2; clear t2 x2 q2)
  have zz := T2.out.obj O1.out (fun hmm => by
    rcases List.mem_cons.1 hmm with e | e
    · exact HNE.out.1 e
    · exact HNE.out.2 e)
  have z0 := cell_of_row _ _ 0 _ _ _ zz
  have z1 := cell_of_row _ _ 1 _ _ _ zz
  have z2 := cell_of_row _ _ 2 _ _ _ zz
  have z3 := cell_of_row _ _ 3 _ _ _ zz
  have z4 := cell_of_row _ _ 4 _ _ _ zz
  have z5 := cell_of_row _ _ 5 _ _ _ zz
  have z6 := cell_of_row _ _ 6 _ _ _ zz
  simp only [List.getElem?_toArray, List.getElem?_cons_zero, List.getElem?_cons_succ] at z0 z1 z2 z3 z4 z5 z6
  have lz := lt_of_obj zz
  have TW2 := hid ((T1.out.mono (S' := b :: blks v) (by simp)).trans T2.out)
  have HQ3 := hid (fun pk hpk => HQ2.out w2 w2 pk _ _ _ X2.out HL1.out (HPW.out _ TW2.out) hpk (Tch.refl [] w2))
  have RES := hid (fun w3 q => Put.then (n := n) (w3 := w3) (l2 := (l ++ ptsT [.s [37], .i d, .s [32, 61, 32]]) ++ ptsT [.s [108, 111, 97, 100, 32, 36], .i s]) TW2.out (fun k hk => (B2.out k hk).imp id (fun h => Nat.le_trans T1.out.size h)) q)
  rw [HAP.out] at RES HQ3
  clear zz HQ1 HQ2 X2 B2 HL1 HPW
  go_wp2_with (go_at_call 88; refine (HQ3.out _ rfl).mono ?_; rintro r w3 ⟨rfl, q⟩; have HR := hid (RES.out _ q); clear q)
  go_end0
  exact ⟨rfl, HR.out⟩
set_option maxRecDepth 100000 in
set_option maxHeartbeats 8000000 in
theorem tinstr_6 {n b : Nat} {p v : Value} {l : List UInt8} (o d a b2 m s : Int) (w : World) (h : Tx n b p v l w) (hE : Pw w) (hN : PwN n) (hK : Kinds w) (hd : W64s d) (ha : W64s a) (hb : W64s b2) (hm : W64s m) (hs : W64s s) (hlen : l.length ≤ 900000000) :
    Calls Tryd.prog 57 #[.pointer (some ⟨b, 0, none⟩), .agg #[.int .u8 6, .int .u8 o, .int .i64 d, .int .i64 a, .int .i64 b2, .int .i64 m, .int .i64 s]] w fun r w' => r = .returned (.tuple #[]) ∧ Put n b v (l ++ ptsT [.s [115, 116, 111, 114, 101, 32, 36], .i s, .s [44, 32, 37], .i a]) w w' := by
  have k1 : Tryd.prog.concrete 9 = true := by kernel_rfl
  have k2 : Tryd.prog.concrete 3 = true := by kernel_rfl
  have k3 : Tryd.prog.concrete 2 = true := by kernel_rfl
  have T0 := hid ((Tch.refl [] w).alloc (.cells #[.int .u8 6, .int .u8 o, .int .i64 d, .int .i64 a, .int .i64 b2, .int .i64 m, .int .i64 s] 39))
  have hne : ¬ w.heap.size = b ∧ ¬ w.heap.size ∈ blks v := ⟨fun e => by have := h.lt.1; omega, fun e => by have := h.lt.2 _ e; omega⟩
  have HNE := hid hne
  have hset := sets_any 6 (by omega) o d a b2 m s (w.alloc (.cells #[.int .u8 6, .int .u8 o, .int .i64 d, .int .i64 a, .int .i64 b2, .int .i64 m, .int .i64 s] 39)) (hK.gr ((Gr.refl w).alloc _))
  rw [show kbb 6 1 = false from rfl] at hset
  have HSE := hid hset
  have ld := itoa_le d hd
  have la := itoa_le a ha
  have lb := itoa_le b2 hb
  have lm := itoa_le m hm
  have ls := itoa_le s hs
  have HQ2 : Hid (∀ (W : World) (pk : Nat), pk = W.heap.size → Tch [] w W → Calls Tryd.prog 88 #[.pointer (some ⟨b, 0, none⟩), .slice (some ⟨pk, 0, none⟩) 4 4] (W.alloc (.cells #[.iface 9 (.string ⟨#[115, 116, 111, 114, 101, 32, 36]⟩), .iface 3 (.int .i64 s), .iface 9 (.string ⟨#[44, 32, 37]⟩), .iface 3 (.int .i64 a)] 20)) fun r w' => r = .returned (.tuple #[]) ∧ Put n b v (l ++ ptsT [.s [115, 116, 111, 114, 101, 32, 36], .i s, .s [44, 32, 37], .i a]) w w') := fun W pk hpk t => by subst hpk; exact put_new [.s [115, 116, 111, 114, 101, 32, 36], .i s, .s [44, 32, 37], .i a] w W h t hE hN (by intro x hx; simp only [List.mem_cons, List.not_mem_nil, or_false] at hx; rcases hx with rfl | rfl | rfl | rfl <;> first | trivial | exact hd | exact ha | exact hb | exact hm | exact hs) (by simp) (by simp) (by simp [ptsT, Pt.txt]; omega)
  have O0 := hid (heap_alloc_new w (.cells #[.int .u8 6, .int .u8 o, .int .i64 d, .int .i64 a, .int .i64 b2, .int .i64 m, .int .i64 s] 39))
  clear h hE hN hK hset ld la lb lm ls hd ha hb hm hs hlen hne
  go_enter Tryd.func57, Tryd.ntmps57
  go_upto_region 4 with (go_at_call 35; refine HSE.out.mono ?_; rintro r w1 ⟨rfl, g1⟩; have T1 := hid (T0.out.trans g1.tch); have O1 := hid (g1.tch.obj O0.out (by simp)); clear g1)
  have zz := O1.out
  have z0 := cell_of_row _ _ 0 _ _ _ zz
  have z1 := cell_of_row _ _ 1 _ _ _ zz
  have z2 := cell_of_row _ _ 2 _ _ _ zz
  have z3 := cell_of_row _ _ 3 _ _ _ zz
  have z4 := cell_of_row _ _ 4 _ _ _ zz
  have z5 := cell_of_row _ _ 5 _ _ _ zz
  have z6 := cell_of_row _ _ 6 _ _ _ zz
  simp only [List.getElem?_toArray, List.getElem?_cons_zero, List.getElem?_cons_succ] at z0 z1 z2 z3 z4 z5 z6
  have lz := lt_of_obj zz
  clear zz
  go_wp2_with (go_at_call 88; refine (HQ2.out _ _ rfl T1.out).mono ?_; rintro r w3 ⟨rfl, q⟩; have HR := hid q; clear q)
  go_end0
  exact ⟨rfl, HR.out⟩
set_option maxRecDepth 100000 in
set_option maxHeartbeats 8000000 in
theorem tinstr_7 {n b : Nat} {p v : Value} {l : List UInt8} (o d a b2 m s : Int) (w : World) (h : Tx n b p v l w) (hE : Pw w) (hN : PwN n) (hK : Kinds w) (hd : W64s d) (ha : W64s a) (hb : W64s b2) (hm : W64s m) (hs : W64s s) (hlen : l.length ≤ 900000000) :
    Calls Tryd.prog 57 #[.pointer (some ⟨b, 0, none⟩), .agg #[.int .u8 7, .int .u8 o, .int .i64 d, .int .i64 a, .int .i64 b2, .int .i64 m, .int .i64 s]] w fun r w' => r = .returned (.tuple #[]) ∧ Put n b v (l ++ ptsT [.s [37], .i d, .s [32, 61, 32], .s [103, 101, 116, 32, 37], .i a]) w w' := by
  have k1 : Tryd.prog.concrete 9 = true := by kernel_rfl
  have k2 : Tryd.prog.concrete 3 = true := by kernel_rfl
  have k3 : Tryd.prog.concrete 2 = true := by kernel_rfl
  have T0 := hid ((Tch.refl [] w).alloc (.cells #[.int .u8 7, .int .u8 o, .int .i64 d, .int .i64 a, .int .i64 b2, .int .i64 m, .int .i64 s] 39))
  have hne : ¬ w.heap.size = b ∧ ¬ w.heap.size ∈ blks v := ⟨fun e => by have := h.lt.1; omega, fun e => by have := h.lt.2 _ e; omega⟩
  have HNE := hid hne
  have hset := sets_any 7 (by omega) o d a b2 m s (w.alloc (.cells #[.int .u8 7, .int .u8 o, .int .i64 d, .int .i64 a, .int .i64 b2, .int .i64 m, .int .i64 s] 39)) (hK.gr ((Gr.refl w).alloc _))
  rw [show kbb 7 1 = true from rfl, show io 7 1 d = d from rfl] at hset
  have HSE := hid hset
  have ld := itoa_le d hd
  have la := itoa_le a ha
  have lb := itoa_le b2 hb
  have lm := itoa_le m hm
  have ls := itoa_le s hs
  have HQ1 : Hid (∀ (W : World) (pk : Nat), pk = W.heap.size → Tch [] w W → Calls Tryd.prog 88 #[.pointer (some ⟨b, 0, none⟩), .slice (some ⟨pk, 0, none⟩) 3 3] (W.alloc (.cells #[.iface 9 (.string ⟨#[37]⟩), .iface 3 (.int .i64 d), .iface 9 (.string ⟨#[32, 61, 32]⟩)] 20)) fun r w' => r = .returned (.tuple #[]) ∧ Put n b v (l ++ ptsT [.s [37], .i d, .s [32, 61, 32]]) W w') := fun W pk hpk t => by subst hpk; exact put_new2 [.s [37], .i d, .s [32, 61, 32]] W (h.tch t (by simp)) (hE.tch t (by simp)) hN (by intro x hx; simp only [List.mem_cons, List.not_mem_nil, or_false] at hx; rcases hx with rfl | rfl | rfl <;> first | trivial | exact hd | exact ha | exact hb | exact hm | exact hs) (by simp) (by simp) (by simp [ptsT, Pt.txt]; omega)
  have HQ2 : Hid (∀ (w2 W : World) (pk : Nat) (p2 v2 : Value) (l2 : List UInt8), Tx n b p2 v2 l2 w2 → l2.length ≤ 900000100 → Pw w2 → pk = W.heap.size → Tch [] w2 W → Calls Tryd.prog 88 #[.pointer (some ⟨b, 0, none⟩), .slice (some ⟨pk, 0, none⟩) 2 2] (W.alloc (.cells #[.iface 9 (.string ⟨#[103, 101, 116, 32, 37]⟩), .iface 3 (.int .i64 a)] 20)) fun r w' => r = .returned (.tuple #[]) ∧ Put n b v2 (l2 ++ ptsT [.s [103, 101, 116, 32, 37], .i a]) w2 w') := fun w2 W pk p2 v2 l2 h2 hl2 hE2 hpk t => by subst hpk; exact put_new [.s [103, 101, 116, 32, 37], .i a] w2 W h2 t hE2 hN (by intro x hx; simp only [List.mem_cons, List.not_mem_nil, or_false] at hx; rcases hx with rfl | rfl <;> first | trivial | exact hd | exact ha | exact hb | exact hm | exact hs) (by simp) (by simp) (by simp [ptsT, Pt.txt]; omega)
  have hl1 : (l ++ ptsT [.s [37], .i d, .s [32, 61, 32]]).length ≤ 900000100 := by simp [ptsT, Pt.txt]; omega
  have HL1 := hid hl1
  have HAP : Hid ((l ++ ptsT [.s [37], .i d, .s [32, 61, 32]]) ++ ptsT [.s [103, 101, 116, 32, 37], .i a] = l ++ ptsT [.s [37], .i d, .s [32, 61, 32], .s [103, 101, 116, 32, 37], .i a]) := by show _ = _; simp [ptsT]
  have HPW : Hid (∀ w2, Tch (b :: blks v) w w2 → Pw w2) := fun w2 t => hE.tch t (fun g hg hmm => by
    have := hN g hg
    rcases List.mem_cons.1 hmm with rfl | hmm
    · have := h.nb; omega
    · have := (h.d g hmm).1; omega)
  have O0 := hid (heap_alloc_new w (.cells #[.int .u8 7, .int .u8 o, .int .i64 d, .int .i64 a, .int .i64 b2, .int .i64 m, .int .i64 s] 39))
  clear h hE hN hK hset ld la lb lm ls hd ha hb hm hs hlen hl1 hne
  go_enter Tryd.func57, Tryd.ntmps57
  go_upto_region 3 with (go_at_call 35; refine HSE.out.mono ?_; rintro r w1 ⟨rfl, g1⟩; have T1 := hid (T0.out.trans g1.tch); have O1 := hid (g1.tch.obj O0.out (by simp)); clear g1)
  go_upto_region 4 with (go_at_call 88; refine (HQ1.out _ _ rfl T1.out).mono ?_; rintro r w2 ⟨rfl, a2, c2, t2, x2, q2⟩; have T2 := hid t2; have X2 := hid x2; have B2 := hid q2; clear t2 x2 q2)
  have zz := T2.out.obj O1.out (fun hmm => by
    rcases List.mem_cons.1 hmm with e | e
    · exact HNE.out.1 e
    · exact HNE.out.2 e)
  have z0 := cell_of_row _ _ 0 _ _ _ zz
  have z1 := cell_of_row _ _ 1 _ _ _ zz
  have z2 := cell_of_row _ _ 2 _ _ _ zz
  have z3 := cell_of_row _ _ 3 _ _ _ zz
  have z4 := cell_of_row _ _ 4 _ _ _ zz
  have z5 := cell_of_row _ _ 5 _ _ _ zz
  have z6 := cell_of_row _ _ 6 _ _ _ zz
  simp only [List.getElem?_toArray, List.getElem?_cons_zero, List.getElem?_cons_succ] at z0 z1 z2 z3 z4 z5 z6
  have lz := lt_of_obj zz
  have TW2 := hid ((T1.out.mono (S' := b :: blks v) (by simp)).trans T2.out)
  have HQ3 := hid (fun pk hpk => HQ2.out w2 w2 pk _ _ _ X2.out HL1.out (HPW.out _ TW2.out) hpk (Tch.refl [] w2))
  have RES := hid (fun w3 q => Put.then (n := n) (w3 := w3) (l2 := (l ++ ptsT [.s [37], .i d, .s [32, 61, 32]]) ++ ptsT [.s [103, 101, 116, 32, 37], .i a]) TW2.out (fun k hk => (B2.out k hk).imp id (fun h => Nat.le_trans T1.out.size h)) q)
  rw [HAP.out] at RES HQ3
  clear zz HQ1 HQ2 X2 B2 HL1 HPW
  go_wp2_with (go_at_call 88; refine (HQ3.out _ rfl).mono ?_; rintro r w3 ⟨rfl, q⟩; have HR := hid (RES.out _ q); clear q)
  go_end0
  exact ⟨rfl, HR.out⟩
set_option maxRecDepth 100000 in
set_option maxHeartbeats 8000000 in
theorem tinstr_8 {n b : Nat} {p v : Value} {l : List UInt8} (o d a b2 m s : Int) (w : World) (h : Tx n b p v l w) (hE : Pw w) (hN : PwN n) (hK : Kinds w) (hd : W64s d) (ha : W64s a) (hb : W64s b2) (hm : W64s m) (hs : W64s s) (hlen : l.length ≤ 900000000) :
    Calls Tryd.prog 57 #[.pointer (some ⟨b, 0, none⟩), .agg #[.int .u8 8, .int .u8 o, .int .i64 d, .int .i64 a, .int .i64 b2, .int .i64 m, .int .i64 s]] w fun r w' => r = .returned (.tuple #[]) ∧ Put n b v (l ++ ptsT [.s [112, 117, 116, 32, 37], .i a, .s [44, 32, 37], .i b2]) w w' := by
  have k1 : Tryd.prog.concrete 9 = true := by kernel_rfl
  have k2 : Tryd.prog.concrete 3 = true := by kernel_rfl
  have k3 : Tryd.prog.concrete 2 = true := by kernel_rfl
  have T0 := hid ((Tch.refl [] w).alloc (.cells #[.int .u8 8, .int .u8 o, .int .i64 d, .int .i64 a, .int .i64 b2, .int .i64 m, .int .i64 s] 39))
  have hne : ¬ w.heap.size = b ∧ ¬ w.heap.size ∈ blks v := ⟨fun e => by have := h.lt.1; omega, fun e => by have := h.lt.2 _ e; omega⟩
  have HNE := hid hne
  have hset := sets_any 8 (by omega) o d a b2 m s (w.alloc (.cells #[.int .u8 8, .int .u8 o, .int .i64 d, .int .i64 a, .int .i64 b2, .int .i64 m, .int .i64 s] 39)) (hK.gr ((Gr.refl w).alloc _))
  rw [show kbb 8 1 = false from rfl] at hset
  have HSE := hid hset
  have ld := itoa_le d hd
  have la := itoa_le a ha
  have lb := itoa_le b2 hb
  have lm := itoa_le m hm
  have ls := itoa_le s hs
  have HQ2 : Hid (∀ (W : World) (pk : Nat), pk = W.heap.size → Tch [] w W → Calls Tryd.prog 88 #[.pointer (some ⟨b, 0, none⟩), .slice (some ⟨pk, 0, none⟩) 4 4] (W.alloc (.cells #[.iface 9 (.string ⟨#[112, 117, 116, 32, 37]⟩), .iface 3 (.int .i64 a), .iface 9 (.string ⟨#[44, 32, 37]⟩), .iface 3 (.int .i64 b2)] 20)) fun r w' => r = .returned (.tuple #[]) ∧ Put n b v (l ++ ptsT [.s [112, 117, 116, 32, 37], .i a, .s [44, 32, 37], .i b2]) w w') := fun W pk hpk t => by subst hpk; exact put_new [.s [112, 117, 116, 32, 37], .i a, .s [44, 32, 37], .i b2] w W h t hE hN (by intro x hx; simp only [List.mem_cons, List.not_mem_nil, or_false] at hx; rcases hx with rfl | rfl | rfl | rfl <;> first | trivial | exact hd | exact ha | exact hb | exact hm | exact hs) (by simp) (by simp) (by simp [ptsT, Pt.txt]; omega)
  have O0 := hid (heap_alloc_new w (.cells #[.int .u8 8, .int .u8 o, .int .i64 d, .int .i64 a, .int .i64 b2, .int .i64 m, .int .i64 s] 39))
  clear h hE hN hK hset ld la lb lm ls hd ha hb hm hs hlen hne
  go_enter Tryd.func57, Tryd.ntmps57
  go_upto_region 4 with (go_at_call 35; refine HSE.out.mono ?_; rintro r w1 ⟨rfl, g1⟩; have T1 := hid (T0.out.trans g1.tch); have O1 := hid (g1.tch.obj O0.out (by simp)); clear g1)
  have zz := O1.out
  have z0 := cell_of_row _ _ 0 _ _ _ zz
  have z1 := cell_of_row _ _ 1 _ _ _ zz
  have z2 := cell_of_row _ _ 2 _ _ _ zz
  have z3 := cell_of_row _ _ 3 _ _ _ zz
  have z4 := cell_of_row _ _ 4 _ _ _ zz
  have z5 := cell_of_row _ _ 5 _ _ _ zz
  have z6 := cell_of_row _ _ 6 _ _ _ zz
  simp only [List.getElem?_toArray, List.getElem?_cons_zero, List.getElem?_cons_succ] at z0 z1 z2 z3 z4 z5 z6
  have lz := lt_of_obj zz
  clear zz
  go_wp2_with (go_at_call 88; refine (HQ2.out _ _ rfl T1.out).mono ?_; rintro r w3 ⟨rfl, q⟩; have HR := hid q; clear q)
  go_end0
  exact ⟨rfl, HR.out⟩
end Go.Proofs.YtbdjpmmbnlmkhaaDoor


/- show's instr of an op of two registers. -/
set_option linter.unusedSimpArgs false
set_option linter.unusedVariables false
namespace Go.Proofs.YtbdjpmmbnlmkhaaDoor
open Go.RowKit Go.Sort

set_option maxRecDepth 100000 in
set_option maxHeartbeats 8000000 in
theorem tinstr_2 {n b : Nat} {p v : Value} {l : List UInt8} (nm : List UInt8) (o d a b2 m s : Int) (w : World) (h : Tx n b p v l w) (hE : Pw w) (hN : PwN n) (hK : Kinds w) (ho : 0 ≤ o ∧ o < 12) (hnm : nm.length ≤ 10) (hwc : w.cell? ⟨1, o.toNat, none⟩ = some (.string (bytesOf nm))) (hwn : 1 < n) (hd : W64s d) (ha : W64s a) (hb : W64s b2) (hlen : l.length ≤ 900000000) :
    Calls Tryd.prog 57 #[.pointer (some ⟨b, 0, none⟩), .agg #[.int .u8 2, .int .u8 o, .int .i64 d, .int .i64 a, .int .i64 b2, .int .i64 m, .int .i64 s]] w fun r w' => r = .returned (.tuple #[]) ∧ Put n b v (l ++ ptsT [.s [37], .i d, .s [32, 61, 32], .s nm, .s [32, 37], .i a, .s [44, 32, 37], .i b2]) w w' := by
  have hmo : Tryd.prog.follows .mixedOrders = true := by kernel_rfl
  have k1 : Tryd.prog.concrete 9 = true := by kernel_rfl
  have k2 : Tryd.prog.concrete 3 = true := by kernel_rfl
  have T0 := hid ((Tch.refl [] w).alloc (.cells #[.int .u8 2, .int .u8 o, .int .i64 d, .int .i64 a, .int .i64 b2, .int .i64 m, .int .i64 s] 39))
  have hne : ¬ w.heap.size = b ∧ ¬ w.heap.size ∈ blks v := ⟨fun e => by have := h.lt.1; omega, fun e => by have := h.lt.2 _ e; omega⟩
  have HNE := hid hne
  have hset := sets_any 2 (by omega) o d a b2 m s (w.alloc (.cells #[.int .u8 2, .int .u8 o, .int .i64 d, .int .i64 a, .int .i64 b2, .int .i64 m, .int .i64 s] 39)) (hK.gr ((Gr.refl w).alloc _))
  rw [show kbb 2 1 = true from rfl, show io 2 1 d = d from rfl] at hset
  have HSE := hid hset
  have ld := itoa_le d hd
  have la := itoa_le a ha
  have lb := itoa_le b2 hb
  have HQ1 : Hid (∀ (W : World) (pk : Nat), pk = W.heap.size → Tch [] w W → Calls Tryd.prog 88 #[.pointer (some ⟨b, 0, none⟩), .slice (some ⟨pk, 0, none⟩) 3 3] (W.alloc (.cells #[.iface 9 (.string ⟨#[37]⟩), .iface 3 (.int .i64 d), .iface 9 (.string ⟨#[32, 61, 32]⟩)] 20)) fun r w' => r = .returned (.tuple #[]) ∧ Put n b v (l ++ ptsT [.s [37], .i d, .s [32, 61, 32]]) W w') := fun W pk hpk t => by subst hpk; exact put_new2 [.s [37], .i d, .s [32, 61, 32]] W (h.tch t (by simp)) (hE.tch t (by simp)) hN (by intro x hx; simp only [List.mem_cons, List.not_mem_nil, or_false] at hx; rcases hx with rfl | rfl | rfl <;> first | trivial | exact hd | exact ha | exact hb) (by simp) (by simp) (by simp [ptsT, Pt.txt]; omega)
  have HQ2 : Hid (∀ (w2 W : World) (pk : Nat) (p2 v2 : Value) (l2 : List UInt8), Tx n b p2 v2 l2 w2 → l2.length ≤ 900000100 → Pw w2 → pk = W.heap.size → Tch [] w2 W → Calls Tryd.prog 88 #[.pointer (some ⟨b, 0, none⟩), .slice (some ⟨pk, 0, none⟩) 5 5] (W.alloc (.cells #[.iface 9 (.string (bytesOf nm)), .iface 9 (.string ⟨#[32, 37]⟩), .iface 3 (.int .i64 a), .iface 9 (.string ⟨#[44, 32, 37]⟩), .iface 3 (.int .i64 b2)] 20)) fun r w' => r = .returned (.tuple #[]) ∧ Put n b v2 (l2 ++ ptsT [.s nm, .s [32, 37], .i a, .s [44, 32, 37], .i b2]) w2 w') := fun w2 W pk p2 v2 l2 h2 hl2 hE2 hpk t => by subst hpk; exact put_new [.s nm, .s [32, 37], .i a, .s [44, 32, 37], .i b2] w2 W h2 t hE2 hN (by intro x hx; simp only [List.mem_cons, List.not_mem_nil, or_false] at hx; rcases hx with rfl | rfl | rfl | rfl | rfl <;> first | trivial | exact hd | exact ha | exact hb) (by simp) (by simp) (by simp [ptsT, Pt.txt]; omega)
  have hl1 : (l ++ ptsT [.s [37], .i d, .s [32, 61, 32]]).length ≤ 900000100 := by simp [ptsT, Pt.txt]; omega
  have HL1 := hid hl1
  have HAP : Hid ((l ++ ptsT [.s [37], .i d, .s [32, 61, 32]]) ++ ptsT [.s nm, .s [32, 37], .i a, .s [44, 32, 37], .i b2] = l ++ ptsT [.s [37], .i d, .s [32, 61, 32], .s nm, .s [32, 37], .i a, .s [44, 32, 37], .i b2]) := by show _ = _; simp [ptsT]
  have HNG : Hid (∀ g, g < n → ¬ g ∈ b :: blks v) := fun g hg hmm => by
    rcases List.mem_cons.1 hmm with rfl | hmm
    · have := h.nb; omega
    · have := (h.d g hmm).1; omega
  have HPW : Hid (∀ w2, Tch (b :: blks v) w w2 → Pw w2) := fun w2 t => hE.tch t (fun g hg hmm => HNG.out g (hN g hg) hmm)
  have HWC : Hid (∀ w2, Tch (b :: blks v) w w2 → w2.cell? ⟨1, o.toNat, none⟩ = some (.string (bytesOf nm))) := fun w2 t => by
    unfold World.cell? at hwc ⊢
    rw [t.block _ (cell_lt (p := ⟨1, o.toNat, none⟩) (by unfold World.cell?; exact hwc)) (HNG.out _ hwn)]
    exact hwc
  have O0 := hid (heap_alloc_new w (.cells #[.int .u8 2, .int .u8 o, .int .i64 d, .int .i64 a, .int .i64 b2, .int .i64 m, .int .i64 s] 39))
  clear h hE hN hK hset ld la lb hd ha hb hlen hl1 hne hwc hwn hnm
  go_enter Tryd.func57, Tryd.ntmps57
  go_upto_region 3 with (go_at_call 35; refine HSE.out.mono ?_; rintro r w1 ⟨rfl, g1⟩; have T1 := hid (T0.out.trans g1.tch); have O1 := hid (g1.tch.obj O0.out (by simp)); clear g1)
  go_upto_region 4 with (go_at_call 88; refine (HQ1.out _ _ rfl T1.out).mono ?_; rintro r w2 ⟨rfl, a2, c2, t2, x2, q2⟩; have T2 := hid t2; have X2 := hid x2; have B2 := hid q2; clear t2 x2 q2)
  have zz := T2.out.obj O1.out (fun hmm => by
    rcases List.mem_cons.1 hmm with e | e
    · exact HNE.out.1 e
    · exact HNE.out.2 e)
  have z0 := cell_of_row _ _ 0 _ _ _ zz
  have z1 := cell_of_row _ _ 1 _ _ _ zz
  have z3 := cell_of_row _ _ 3 _ _ _ zz
  have z4 := cell_of_row _ _ 4 _ _ _ zz
  simp only [List.getElem?_toArray, List.getElem?_cons_zero, List.getElem?_cons_succ] at z0 z1 z3 z4
  have lz := lt_of_obj zz
  have l1 := lt_of_obj O1.out
  have TW2 := hid (((T1.out.mono (S' := b :: blks v) (by simp)).trans T2.out).drew)
  have XD := hid (X2.out.tch ((Tch.refl [] w2).drew) (by simp))
  have NB : Hid (¬ w.heap.size ∈ b :: blks (.slice a2 (l ++ ptsT [.s [37], .i d, .s [32, 61, 32]]).length c2)) := fun hmm => by
    rcases List.mem_cons.1 hmm with e | e
    · exact HNE.out.1 e
    · rcases B2.out _ e with h | h
      · exact HNE.out.2 h
      · omega
  have BK := hid (show ∀ k ∈ blks (.slice a2 (l ++ ptsT [.s [37], .i d, .s [32, 61, 32]]).length c2), k ∈ blks v ∨ w.heap.size ≤ k from fun k hk => (B2.out k hk).imp id (fun h => Nat.le_trans T1.out.size h))
  go_upto_region 10 with fail
  clear zz HQ1 B2
  refine wp_region_noPanic ?_
  refine wp_region_held_drew (S := fun w' => w'.cell? ⟨w.heap.size, 1, none⟩ = some (.int .u8 o) ∧ w'.cell? ⟨w.heap.size, 3, none⟩ = some (.int .i64 a) ∧ w'.cell? ⟨w.heap.size, 4, none⟩ = some (.int .i64 b2)) hmo ⟨z1, z3, z4⟩ (fun hHeld => ?_)
  have H1c : Hid (w2.drew.cell? ⟨w.heap.size, 1, none⟩ = some (.int .u8 o)) := z1
  have H3c : Hid (w2.drew.cell? ⟨w.heap.size, 3, none⟩ = some (.int .i64 a)) := z3
  have H4c : Hid (w2.drew.cell? ⟨w.heap.size, 4, none⟩ = some (.int .i64 b2)) := z4
  clear z0 z1 z3 z4 lz l1
  generalize w2.drew = x0 at hHeld TW2 XD H1c H3c H4c ⊢
  have WC := hid (HWC.out _ TW2.out)
  have HQ3 := hid (fun pk hpk => HQ2.out x0 x0 pk _ _ _ XD.out HL1.out (HPW.out _ TW2.out) hpk (Tch.refl [] x0))
  have RES := hid (fun w3 q => Put.then (n := n) (w3 := w3) (l2 := (l ++ ptsT [.s [37], .i d, .s [32, 61, 32]]) ++ ptsT [.s nm, .s [32, 37], .i a, .s [44, 32, 37], .i b2]) TW2.out BK.out q)
  rw [HAP.out] at RES HQ3
  have KEEP : Hid (∀ w3, Tch (b :: blks (.slice a2 (l ++ ptsT [.s [37], .i d, .s [32, 61, 32]]).length c2)) x0 w3 → ∀ j u, x0.cell? ⟨w.heap.size, j, none⟩ = some u → w3.cell? ⟨w.heap.size, j, none⟩ = some u) := fun w3 t j u hc => by
    unfold World.cell? at hc ⊢
    rw [t.block _ (cell_lt (p := ⟨w.heap.size, j, none⟩) (by unfold World.cell?; exact hc)) NB.out]
    exact hc
  clear HQ2 XD HL1 HPW HWC BK
  refine wpAnyH_take (i := 0) (oi := { dst := some 40, op := Go.Op.move (Go.Operand.tmp 0), type := 144, pos := "text.go:68", after := #[], guard := none }) (v := ?_) rfl (by kernel_rfl) (by kernel_rfl) (by kernel_rfl) (fun _ _ _ h => h) (Or.inl ⟨by rfl, ?_⟩) (by assumption) ?_
  rotate_left
  (intro w hSw; (try dsimp only at hSw); go_simp; try (with_reducible rfl))
  simp only [Act.put, List.setIfInBounds_toArray, List.set_cons_zero, List.set_cons_succ]
  refine wpAnyH_take (i := 1) (oi := { dst := some 41, op := Go.Op.fieldAddr 39 (Go.Operand.tmp 3) 1, type := 0, pos := "text.go:68", after := #[], guard := none }) (v := ?_) rfl (by kernel_rfl) (by kernel_rfl) (by kernel_rfl) (fun _ _ _ h => h) (Or.inl ⟨by rfl, ?_⟩) (by assumption) ?_
  rotate_left
  (intro w hSw; (try dsimp only at hSw); go_simp; try (with_reducible rfl))
  simp only [Act.put, List.setIfInBounds_toArray, List.set_cons_zero, List.set_cons_succ]
  refine wpAnyH_take (i := 2) (oi := { dst := some 42, op := Go.Op.load 37 (Go.Operand.tmp 41), type := 37, pos := "text.go:68", after := #[{ on := 1, ground := Go.Ground.data }], guard := none }) (v := ?_) rfl (by kernel_rfl) (by kernel_rfl) (by kernel_rfl) (fun _ _ _ h => h) (Or.inl ⟨by rfl, ?_⟩) (by assumption) ?_
  rotate_left
  (intro w hSw; (try dsimp only at hSw); go_simp; try (with_reducible rfl))
  simp only [Act.put, List.setIfInBounds_toArray, List.set_cons_zero, List.set_cons_succ]
  refine wpAnyH_take (i := 5) (oi := { dst := some 45, op := Go.Op.makeInterface 9 (Go.Operand.const (Go.Value.string { data := #[32, 37] })), type := 20, pos := "text.go:68", after := #[], guard := none }) (v := ?_) rfl (by kernel_rfl) (by kernel_rfl) (by kernel_rfl) (fun _ _ _ h => h) (Or.inl ⟨by rfl, ?_⟩) (by assumption) ?_
  rotate_left
  (intro w hSw; (try dsimp only at hSw); go_simp; try (with_reducible rfl))
  simp only [Act.put, List.setIfInBounds_toArray, List.set_cons_zero, List.set_cons_succ]
  refine wpAnyH_take (i := 6) (oi := { dst := some 46, op := Go.Op.fieldAddr 39 (Go.Operand.tmp 3) 3, type := 0, pos := "text.go:68", after := #[], guard := none }) (v := ?_) rfl (by kernel_rfl) (by kernel_rfl) (by kernel_rfl) (fun _ _ _ h => h) (Or.inl ⟨by rfl, ?_⟩) (by assumption) ?_
  rotate_left
  (intro w hSw; (try dsimp only at hSw); go_simp; try (with_reducible rfl))
  simp only [Act.put, List.setIfInBounds_toArray, List.set_cons_zero, List.set_cons_succ]
  refine wpAnyH_take (i := 7) (oi := { dst := some 47, op := Go.Op.load 3 (Go.Operand.tmp 46), type := 3, pos := "text.go:68", after := #[{ on := 6, ground := Go.Ground.data }], guard := none }) (v := ?_) rfl (by kernel_rfl) (by kernel_rfl) (by kernel_rfl) (fun _ _ _ h => h) (Or.inl ⟨by rfl, ?_⟩) (by assumption) ?_
  rotate_left
  (intro w hSw; (try dsimp only at hSw); go_simp; try (with_reducible rfl))
  simp only [Act.put, List.setIfInBounds_toArray, List.set_cons_zero, List.set_cons_succ]
  refine wpAnyH_take (i := 8) (oi := { dst := some 48, op := Go.Op.makeInterface 3 (Go.Operand.tmp 47), type := 20, pos := "text.go:68", after := #[{ on := 7, ground := Go.Ground.data }], guard := none }) (v := ?_) rfl (by kernel_rfl) (by kernel_rfl) (by kernel_rfl) (fun _ _ _ h => h) (Or.inl ⟨by rfl, ?_⟩) (by assumption) ?_
  rotate_left
  (intro w hSw; (try dsimp only at hSw); go_simp; try (with_reducible rfl))
  simp only [Act.put, List.setIfInBounds_toArray, List.set_cons_zero, List.set_cons_succ]
  refine wpAnyH_take (i := 9) (oi := { dst := some 49, op := Go.Op.makeInterface 9 (Go.Operand.const (Go.Value.string { data := #[44, 32, 37] })), type := 20, pos := "text.go:68", after := #[], guard := none }) (v := ?_) rfl (by kernel_rfl) (by kernel_rfl) (by kernel_rfl) (fun _ _ _ h => h) (Or.inl ⟨by rfl, ?_⟩) (by assumption) ?_
  rotate_left
  (intro w hSw; (try dsimp only at hSw); go_simp; try (with_reducible rfl))
  simp only [Act.put, List.setIfInBounds_toArray, List.set_cons_zero, List.set_cons_succ]
  refine wpAnyH_take (i := 10) (oi := { dst := some 50, op := Go.Op.fieldAddr 39 (Go.Operand.tmp 3) 4, type := 0, pos := "text.go:68", after := #[], guard := none }) (v := ?_) rfl (by kernel_rfl) (by kernel_rfl) (by kernel_rfl) (fun _ _ _ h => h) (Or.inl ⟨by rfl, ?_⟩) (by assumption) ?_
  rotate_left
  (intro w hSw; (try dsimp only at hSw); go_simp; try (with_reducible rfl))
  simp only [Act.put, List.setIfInBounds_toArray, List.set_cons_zero, List.set_cons_succ]
  refine wpAnyH_take (i := 11) (oi := { dst := some 51, op := Go.Op.load 3 (Go.Operand.tmp 50), type := 3, pos := "text.go:68", after := #[{ on := 10, ground := Go.Ground.data }], guard := none }) (v := ?_) rfl (by kernel_rfl) (by kernel_rfl) (by kernel_rfl) (fun _ _ _ h => h) (Or.inl ⟨by rfl, ?_⟩) (by assumption) ?_
  rotate_left
  (intro w hSw; (try dsimp only at hSw); go_simp; try (with_reducible rfl))
  simp only [Act.put, List.setIfInBounds_toArray, List.set_cons_zero, List.set_cons_succ]
  refine wpAnyH_take (i := 12) (oi := { dst := some 52, op := Go.Op.makeInterface 3 (Go.Operand.tmp 51), type := 20, pos := "text.go:68", after := #[{ on := 11, ground := Go.Ground.data }], guard := none }) (v := ?_) rfl (by kernel_rfl) (by kernel_rfl) (by kernel_rfl) (fun _ _ _ h => h) (Or.inl ⟨by rfl, ?_⟩) (by assumption) ?_
  rotate_left
  (intro w hSw; (try dsimp only at hSw); go_simp; try (with_reducible rfl))
  simp only [Act.put, List.setIfInBounds_toArray, List.set_cons_zero, List.set_cons_succ]
  refine wpAnyH_ready (rs := [3]) (by kernel_rfl) (by simp) (AllReadyH.cons (o := { dst := some 43, op := Go.Op.call { callee := Go.Callee.value (Go.Operand.func 89), args := #[Go.Operand.tmp 42], argTypes := #[37] }, type := 9, pos := "text.go:68", after := #[{ on := 2, ground := Go.Ground.data }], guard := none }) rfl (fun K hK => ?_) AllReadyH.nil)
  go_simp
  go_at_call 89
  refine (name_at o (bytesOf nm) _ ho.1 ho.2 WC.out).mono ?_
  rintro e x3 ⟨rfl, rfl⟩
  refine hK.out _ _ (hHeld) (fun hH2 => ?_)
  clear hHeld hK K
  have hHeld := hH2
  clear hH2
  try simp only [Act.put, List.setIfInBounds_toArray, List.set_cons_zero, List.set_cons_succ]
  refine wpAnyH_take (i := 4) (oi := { dst := some 44, op := Go.Op.makeInterface 9 (Go.Operand.tmp 43), type := 20, pos := "text.go:68", after := #[{ on := 3, ground := Go.Ground.data }], guard := none }) (v := ?_) rfl (by kernel_rfl) (by kernel_rfl) (by kernel_rfl) (fun _ _ _ h => h) (Or.inl ⟨by rfl, ?_⟩) (by assumption) ?_
  rotate_left
  (intro w hSw; (try dsimp only at hSw); go_simp; try (with_reducible rfl))
  simp only [Act.put, List.setIfInBounds_toArray, List.set_cons_zero, List.set_cons_succ]
  refine wpAnyH_ready (rs := [13]) (by kernel_rfl) (by simp) (AllReadyH.cons (o := { dst := some 53, op := Go.Op.buildSlice 164 5 #[(0, Go.Operand.tmp 44), (1, Go.Operand.tmp 45), (2, Go.Operand.tmp 48), (3, Go.Operand.tmp 49), (4, Go.Operand.tmp 52)], type := 164, pos := "text.go:68", after := #[{ on := 4, ground := Go.Ground.data }, { on := 5, ground := Go.Ground.data }, { on := 8, ground := Go.Ground.data }, { on := 9, ground := Go.Ground.data }, { on := 12, ground := Go.Ground.data }], guard := none }) rfl (fun K hK => ?_) AllReadyH.nil)
  go_simp
  refine hK.out _ _ (⟨((Gr.refl _).alloc _).val hHeld.1, ((Gr.refl _).alloc _).val hHeld.2.1, ((Gr.refl _).alloc _).val hHeld.2.2⟩) (fun hH2 => ?_)
  clear hHeld hK K
  have hHeld := hH2
  clear hH2
  try simp only [Act.put, List.setIfInBounds_toArray, List.set_cons_zero, List.set_cons_succ]
  refine wpAnyH_ready (rs := [14]) (by kernel_rfl) (by simp) (AllReadyH.cons (o := { dst := some 54, op := Go.Op.call { callee := Go.Callee.value (Go.Operand.func 88), args := #[Go.Operand.tmp 40, Go.Operand.tmp 53], argTypes := #[144, 164] }, type := 0, pos := "text.go:68", after := #[{ on := 0, ground := Go.Ground.data }, { on := 13, ground := Go.Ground.data }, { on := 3, ground := Go.Ground.chain }], guard := none }) rfl (fun K hK => ?_) AllReadyH.nil)
  go_simp
  go_at_call 88
  refine (HQ3.out _ rfl).mono ?_
  rintro r w3 ⟨rfl, q⟩
  have hq := q
  obtain ⟨_, _, tq, _, _⟩ := hq
  refine hK.out _ _ (⟨KEEP.out _ tq _ _ H1c.out, KEEP.out _ tq _ _ H3c.out, KEEP.out _ tq _ _ H4c.out⟩) (fun hH2 => ?_)
  clear hHeld hK K
  have hHeld := hH2
  clear hH2
  try simp only [Act.put, List.setIfInBounds_toArray, List.set_cons_zero, List.set_cons_succ]
  have HR := hid (RES.out _ q)
  clear q tq
  refine wpAnyH_done (by kernel_rfl) (NoPanic.normal ?_) _
  go_simp
  go_wp2_with fail
  go_end0
  exact ⟨rfl, HR.out⟩
end Go.Proofs.YtbdjpmmbnlmkhaaDoor


/- show's Instr: what is printed is what instr puts. -/
set_option linter.unusedSimpArgs false
set_option linter.unusedVariables false
namespace Go.Proofs.YtbdjpmmbnlmkhaaDoor
open Go.RowKit Go.Sort

/-- A text that was begun just now, behind a box. -/
theorem tx_box (w : World) (o : Obj) : Tx w.heap.size (w.heap.size + 1) (.pointer none) (.slice none 0 0) [] ((w.alloc o).alloc (.cells #[.pointer none, .slice none 0 0] 103)) := by
  have hx := tx_new (n := w.heap.size) (w.alloc o) (by simp)
  simp only [World.size_alloc] at hx
  exact hx
set_option maxRecDepth 100000 in
set_option maxHeartbeats 8000000 in
theorem sinstr_of (k o d a b2 m s : Int) (ps : List Pt) (w : World) (hne : ptsT ps ≠ [])
    (hq : Calls Tryd.prog 57 #[.pointer (some ⟨w.heap.size + 1, 0, none⟩), .agg #[.int .u8 k, .int .u8 o, .int .i64 d, .int .i64 a, .int .i64 b2, .int .i64 m, .int .i64 s]] ((w.alloc (.cells #[.int .u8 k, .int .u8 o, .int .i64 d, .int .i64 a, .int .i64 b2, .int .i64 m, .int .i64 s] 39)).alloc (.cells #[.pointer none, .slice none 0 0] 103)) fun r w' => r = .returned (.tuple #[]) ∧ Put w.heap.size (w.heap.size + 1) (.slice none 0 0) ([] ++ ptsT ps) ((w.alloc (.cells #[.int .u8 k, .int .u8 o, .int .i64 d, .int .i64 a, .int .i64 b2, .int .i64 m, .int .i64 s] 39)).alloc (.cells #[.pointer none, .slice none 0 0] 103)) w') :
    Calls Tryd.prog 13 #[.agg #[.int .u8 k, .int .u8 o, .int .i64 d, .int .i64 a, .int .i64 b2, .int .i64 m, .int .i64 s]] w fun r w' => r = .returned (.string (bytesOf (ptsT ps))) ∧ Below w.heap.size w w' := by
  have T1 := hid (((Tch.refl [] w).alloc (.cells #[.int .u8 k, .int .u8 o, .int .i64 d, .int .i64 a, .int .i64 b2, .int .i64 m, .int .i64 s] 39)).alloc (.cells #[.pointer none, .slice none 0 0] 103))
  have HQ := hid hq
  have HNE := hid hne
  clear hq hne
  go_enter Tryd.func13, Tryd.ntmps13
  go_wp2_with (first
    | (go_at_call 57; refine HQ.out.mono ?_; rintro r w2 ⟨rfl, a2, c2, t2, x2, k2⟩; rw [List.nil_append] at *; have HX := hid x2; have HT := hid (T1.out.trans2 t2 (fun x hx => by simp [blks] at hx; exact .inr (by omega))); clear t2 x2 k2)
    | (go_at_call 56; refine (string_tx _ HX.out HNE.out).mono ?_; rintro r w3 ⟨rfl, b3⟩; have HB := hid ((HT.out.below (Nat.le_refl _) (by simp)).trans b3); clear b3))
  go_ret
  exact ⟨rfl, HB.out⟩
end Go.Proofs.YtbdjpmmbnlmkhaaDoor

