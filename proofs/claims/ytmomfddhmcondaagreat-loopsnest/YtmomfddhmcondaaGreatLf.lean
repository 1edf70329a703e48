/- Joined: LdE, LnE. -/
import Derived.Test.YtmomfddhmcondaaGreatLb


/- Deep: a range over a set within a loop: its marks grow with the rounds. -/
set_option linter.unusedSimpArgs false
set_option linter.unusedVariables false
namespace Go.Proofs.YtmomfddhmcondaaGreat
open Go.RowKit Go.Sort Go.Maps Go.Shelf
attribute [local go_sem] Oper.semAt_some

/-- The mark of a range that was gone through. -/
def mkD (D : Nat) : Deferred := { target := .collected D, args := #[] }
/-- **The end of a function that went through many ranges.** -/
theorem leaves_many {F : Fence} {n : Nat} {P : Program} {fn : Func} {tmps : Array Value} {R : Ending → World → Prop} {u : FrameMode} (hu : u ≠ .run) : ∀ (ds : List Nat) (w : World), ds.Nodup → (∀ D ∈ ds, w.heap[D]? = some (.deferred (some []))) →
    (∀ w', Tch ds w w' → LeavesInM F n P fn tmps R [] u w') → LeavesInM F n P fn tmps R (ds.map mkD) u w
  | [], w, _, _, h => h w (Tch.refl _ _)
  | D :: ds, w, hn, hd, h => by
    obtain ⟨n1, n2⟩ := List.nodup_cons.1 hn
    have tp : Tch [D] w (w.putObj D (.deferred none)) := Tch.of_grown (S := [D]) (Go.grownBy_putObj' _ D _) (fun k e => by cases e; simp)
    refine ⟨hu, .inl ⟨D, _, rfl, run_takeDeferred (hd D (by simp)), ?_⟩⟩
    refine leaves_many hu ds _ n2 (fun E hE => tp.obj (hd E (by simp [hE])) (by simp; rintro rfl; exact n1 hE)) (fun w' t => h w' ((tp.mono (by simp)).trans (t.mono (fun k hk => by simp [hk]))))
/-- In how many of the first j lists a place is. -/
def cD (bo : Nat → List Int) : Nat → Nat → Int
  | 0, _ => 0
  | j + 1, v => cD bo j v + ((bo j).count (v : Int) : Nat)
/-- What Deep leaves. -/
def DepP (bo : Nat → List Int) (m n : Nat) (w w' : World) (e : Ending) : Prop := ∃ q, e = .returned (.slice (some ⟨q, 0, none⟩) n n) ∧ Ar n w' q (cD bo m) ∧ Tch [] w w'
theorem ar_own {n q B : Nat} {X Y : World} {f : Nat → Int} (h : Ar n X q f) {row : Option Nat} (g : X.grownBy Y row) (hr : ∀ r, row = some r → B ≤ r ∧ ∃ o : Obj, X.heap[r]? = some o ∧ o.isCells = false) : Ar n Y q f := by
  obtain ⟨cs, h1, h2⟩ := h
  exact ⟨cs, own_cells g hr h1, h2⟩
end Go.Proofs.YtmomfddhmcondaaGreat


/- A frame of 79 slots. -/
set_option linter.unusedSimpArgs false
set_option linter.unusedVariables false
namespace Go.Proofs.YtmomfddhmcondaaGreat
open Go.RowKit

theorem take10 {n : Nat} : ∀ (l : List Value), l.length = n + 10 → ∃ a b c d e f g h i j t, l = a :: b :: c :: d :: e :: f :: g :: h :: i :: j :: t ∧ t.length = n
  | a :: b :: c :: d :: e :: f :: g :: h :: i :: j :: t, hl => ⟨a, b, c, d, e, f, g, h, i, j, t, rfl, by simpa using hl⟩
  | [], hl => by simp at hl
  | [_], hl => by simp at hl
  | [_, _], hl => by simp at hl
  | [_, _, _], hl => by simp at hl
  | [_, _, _, _], hl => by simp at hl
  | [_, _, _, _, _], hl => by simp at hl
  | [_, _, _, _, _, _], hl => by simp at hl
  | [_, _, _, _, _, _, _], hl => by simp at hl
  | [_, _, _, _, _, _, _, _], hl => by simp at hl
  | [_, _, _, _, _, _, _, _, _], hl => by simp at hl
theorem take9 : ∀ (l : List Value), l.length = 9 → ∃ a b c d e f g h i, l = [a, b, c, d, e, f, g, h, i]
  | [a, b, c, d, e, f, g, h, i], _ => ⟨a, b, c, d, e, f, g, h, i, rfl⟩
theorem arr79 (t : Array Value) (h : t.size = 79) : ∃ u0 u1 u2 u3 u4 u5 u6 u7 u8 u9 u10 u11 u12 u13 u14 u15 u16 u17 u18 u19 u20 u21 u22 u23 u24 u25 u26 u27 u28 u29 u30 u31 u32 u33 u34 u35 u36 u37 u38 u39 u40 u41 u42 u43 u44 u45 u46 u47 u48 u49 u50 u51 u52 u53 u54 u55 u56 u57 u58 u59 u60 u61 u62 u63 u64 u65 u66 u67 u68 u69 u70 u71 u72 u73 u74 u75 u76 u77 u78, t = #[u0, u1, u2, u3, u4, u5, u6, u7, u8, u9, u10, u11, u12, u13, u14, u15, u16, u17, u18, u19, u20, u21, u22, u23, u24, u25, u26, u27, u28, u29, u30, u31, u32, u33, u34, u35, u36, u37, u38, u39, u40, u41, u42, u43, u44, u45, u46, u47, u48, u49, u50, u51, u52, u53, u54, u55, u56, u57, u58, u59, u60, u61, u62, u63, u64, u65, u66, u67, u68, u69, u70, u71, u72, u73, u74, u75, u76, u77, u78] := by
  obtain ⟨l⟩ := t
  have hl : l.length = 69 + 10 := by simpa using h
  clear h
  obtain ⟨u0, u1, u2, u3, u4, u5, u6, u7, u8, u9, l0, rfl, h0⟩ := take10 (n := 69) l hl
  obtain ⟨u10, u11, u12, u13, u14, u15, u16, u17, u18, u19, l1, rfl, h1⟩ := take10 (n := 59) l0 h0
  obtain ⟨u20, u21, u22, u23, u24, u25, u26, u27, u28, u29, l2, rfl, h2⟩ := take10 (n := 49) l1 h1
  obtain ⟨u30, u31, u32, u33, u34, u35, u36, u37, u38, u39, l3, rfl, h3⟩ := take10 (n := 39) l2 h2
  obtain ⟨u40, u41, u42, u43, u44, u45, u46, u47, u48, u49, l4, rfl, h4⟩ := take10 (n := 29) l3 h3
  obtain ⟨u50, u51, u52, u53, u54, u55, u56, u57, u58, u59, l5, rfl, h5⟩ := take10 (n := 19) l4 h4
  obtain ⟨u60, u61, u62, u63, u64, u65, u66, u67, u68, u69, l6, rfl, h6⟩ := take10 (n := 9) l5 h5
  obtain ⟨u70, u71, u72, u73, u74, u75, u76, u77, u78, rfl⟩ := take9 l6 h6
  exact ⟨u0, u1, u2, u3, u4, u5, u6, u7, u8, u9, u10, u11, u12, u13, u14, u15, u16, u17, u18, u19, u20, u21, u22, u23, u24, u25, u26, u27, u28, u29, u30, u31, u32, u33, u34, u35, u36, u37, u38, u39, u40, u41, u42, u43, u44, u45, u46, u47, u48, u49, u50, u51, u52, u53, u54, u55, u56, u57, u58, u59, u60, u61, u62, u63, u64, u65, u66, u67, u68, u69, u70, u71, u72, u73, u74, u75, u76, u77, u78, rfl⟩
end Go.Proofs.YtmomfddhmcondaaGreat

