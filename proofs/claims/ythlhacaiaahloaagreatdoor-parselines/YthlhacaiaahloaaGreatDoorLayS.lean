
/- What the library's functions that lex calls come to, laid at this program. -/
import Derived.Shelf.Strconv.ErrVarParseInt
import Derived.Shelf.Strconv.Itoa4
import Derived.Shelf.Strings.Prefix
import Derived.Shelf.Small.Strs
import Derived.Shelf.Strconv.Clone
import Derived.Shelf.Lay
import Derived.Ground.NamesProg
import Derived.Test.YthlhacaiaahloaaGreatDoorGr
set_option linter.unusedSimpArgs false
set_option linter.unusedVariables false
namespace Go.Proofs
open Go.Shelf

shelf_lay LaysC.n174 Nm 174 at Tryz as Tryz.laysPI
shelf_lay Lays.n137 Nm 137 at Tryz as Tryz.laysIB
shelf_lay LaysM.n316 Nm 316 at Tryz as Tryz.laysCl
shelf_lay Lays.n99 Nm 99 at Tryz as Tryz.laysHP
shelf_lay LaysM.n173 Nm 173 at Tryz as Tryz.laysFI
namespace YthlhacaiaahloaaGreatDoor
open Go.RowKit Go.Sort

/-- The library's variables lie as they were laid. -/
structure Env (w : World) : Prop where
  s : ∃ tp p, w.var? Tryz.prog "strconv.ErrSyntax" = some #[.iface tp p]
  r : ∃ tp p, w.var? Tryz.prog "strconv.ErrRange" = some #[.iface tp p]
  t : Lib.TabIs Tryz.prog w "internal/strconv.uint64pow10" .u64 Lib.pow10Tab
theorem var_below {P : Program} {w w' : World} {nm : String} {cs : Array Value} (h : w.var? P nm = some cs) (b : Below w.heap.size w w') : w'.var? P nm = some cs := by
  unfold World.var? at h ⊢
  cases hg : P.globalNamed nm with
  | none => rw [hg] at h; simp at h
  | some g =>
    rw [hg] at h
    simp only [Option.bind_some] at h ⊢
    cases ho : w.heap[g]? with
    | none => rw [ho] at h; simp at h
    | some o => rw [b.block g (lt_of_obj ho), ho]; rw [ho] at h; exact h
theorem Env.below {w w' : World} (h : Env w) (b : Below w.heap.size w w') : Env w' := by
  obtain ⟨⟨t1, p1, h1⟩, ⟨t2, p2, h2⟩, h3⟩ := h
  exact ⟨⟨t1, p1, var_below h1 b⟩, ⟨t2, p2, var_below h2 b⟩, var_below h3 b⟩
theorem hasPrefix_any (s p : ByteArray) (w : World) : Calls Tryz.prog 73 #[.string s, .string p] w fun e w' => e = .returned (.bool (Lib.hasPrefix s.data.toList p.data.toList)) ∧ w' = w := Any.strings_HasPrefix Tryz.laysHP s p w
theorem indexByte_any (s : ByteArray) (c : Int) (w : World) : Calls Tryz.prog 71 #[.string s, .int .u8 c] w fun e w' => e = .returned (.int .i64 (Lib.indexByte s.data.toList c.toNat.toUInt8)) ∧ w' = w := Any.strings_IndexByte Tryz.laysIB s c w
theorem parse_ok (s : ByteArray) (hs : s.size ≤ 281474976710656) (v : Int) (h : Lib.parseIntB 64 s.data.toList = .ok v) (w : World) :
    Calls Tryz.prog 74 #[.string s, .int .i64 10, .int .i64 64] w fun e w' => e = .returned (.tuple #[.int .i64 v, .nilIface]) ∧ Below w.heap.size w w' :=
  (Any.strconv_ParseInt_10_at64_ok Tryz.laysPI s (by omega) v h w).mono fun e w' ⟨he, hw⟩ => ⟨he, by
    rcases hw with rfl | ⟨t, rfl⟩
    · exact Below.refl _ _
    · exact Lib.bytesWorld_below w _ t⟩
theorem parse_bad (s : ByteArray) (hs : s.size ≤ 281474976710656) (h : ¬ ∃ v, Lib.parseIntB 64 s.data.toList = .ok v) (w : World) (hE : Env w) :
    Calls Tryz.prog 74 #[.string s, .int .i64 10, .int .i64 64] w fun e w' => (∃ v tp N, e = .returned (.tuple #[.int .i64 v, .iface tp (.pointer (some ⟨N, 0, none⟩))])) ∧ Below w.heap.size w w' := by
  cases hp : Lib.parseIntB 64 s.data.toList with
  | ok v => exact absurd ⟨v, hp⟩ h
  | range =>
    obtain ⟨tp, p, hv⟩ := hE.r
    exact (Any.strconv_ParseInt_10_at64_range_var Tryz.laysPI s hs hp tp p w hv).mono fun e w' ⟨N, he, _, _, hb⟩ => ⟨⟨_, _, N, he⟩, hb⟩
  | _ =>
    obtain ⟨tp, p, hv⟩ := hE.s
    exact (Any.strconv_ParseInt_10_at64_syntax_var Tryz.laysPI s hs hp tp p w hv).mono fun e w' ⟨N, he, _, _, hb⟩ => ⟨⟨_, _, N, he⟩, hb⟩
theorem format_any (n : Int) (h0 : -9223372036854775808 ≤ n) (h1 : n ≤ 9223372036854775807) (w : World) (hE : Env w) :
    Calls Tryz.prog 75 #[.int .i64 n, .int .i64 10] w fun e w' => e = .returned (.string ⟨(Lib.itoa n).toArray⟩) ∧ Below w.heap.size w w' :=
  (Any.strconv_FormatInt_10 Tryz.laysFI n h0 h1 w hE.t).mono fun e w' ⟨he, k, os, hw⟩ => ⟨he, by rw [hw]; exact (gr_grow w k os).below (Nat.le_refl _)⟩
set_option maxHeartbeats 400000 in
theorem clone_any (s : ByteArray) (hs : s.size ≤ 281474976710656) (w : World) : Calls Tryz.prog 65 #[.string s] w fun e w' => e = .returned (.string s) ∧ Below w.heap.size w w' := by
  have hc := Any.stringslite_Clone Tryz.laysCl s w hs
  go_enter Tryz.func65, Tryz.ntmps65
  go_wp2_with fail
  refine hc.mono ?_
  rintro e w1 ⟨rfl, hb⟩
  have HB := hid hb
  clear hb hc
  go_wp2_with fail
  go_ret
  exact ⟨rfl, HB.out⟩
end YthlhacaiaahloaaGreatDoor
end Go.Proofs
