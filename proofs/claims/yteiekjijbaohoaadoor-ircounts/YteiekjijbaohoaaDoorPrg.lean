/- What a call of Small.Program comes to. -/
import Derived.Test.YteiekjijbaohoaaDoorPrgD
set_option linter.unusedSimpArgs false
set_option linter.unusedVariables false
namespace Go.Proofs.YteiekjijbaohoaaDoor
open Go.RowKit Go.Sort Go.Maps

theorem Own.kept {w0 w w' : World} {v : Value} {bp : Nat} {bs : List BlkM} (h : Own w0 w v bp bs) {k : Nat} (hk : k < w0.heap.size) (t : Tch [k] w w') : Own w0 w' v bp bs :=
  ⟨h.b.kept t (fun b hb hm => by simp at hm; subst hm; have := (h.o _ hb).1; omega), h.p, fun B hB => (h.i B hB).kept t (fun x hx hm => by simp at hm; subst hm; have := (h.q B hB _ hx).1; omega), h.o, h.q⟩
theorem Own.back {w1 w0 w : World} {v : Value} {bp : Nat} {bs : List BlkM} (h : Own w0 w v bp bs) (hl : w1.heap.size ≤ w0.heap.size) : Own w1 w v bp bs :=
  ⟨h.b, h.p, h.i, fun x hx => ⟨Nat.le_trans hl (h.o x hx).1, (h.o x hx).2⟩, fun B hB x hx => ⟨Nat.le_trans hl (h.q B hB x hx).1, (h.q B hB x hx).2⟩⟩
set_option maxRecDepth 100000 in
set_option maxHeartbeats 2000000 in
theorem program_any (s : SmlM) (w : World) (hk : Kinds w) (hs : SmlOk w s) (hl : lightB s = true) :
    Calls Tryd.prog 22 #[.agg #[.int .u8 s.r, .bool s.bare, s.bv]] w fun e w' => ∃ v bp bs, e = .returned (.agg #[v]) ∧ Own w w' v bp bs ∧ bs.map BlkM.ab = progA s ∧ Gr w w' := by
  have hl2 : (∀ b ∈ s.bs, b.ls.length ≤ 10) ∧ s.bs.length ≤ 8 := by simpa [lightB] using hl
  have HL := hid hl2.1
  have hlen := hl2.2
  clear hl hl2
  have HS := hid hs
  have HK := hid hk
  obtain ⟨⟨r0, r1⟩, hb, _⟩ := hs
  obtain ⟨va, vc, hbv, _⟩ := hb.shape
  have HBV := hid hbv
  rw [hbv]
  clear hb hbv hk
  obtain ⟨r, hr⟩ : ∃ r, s.r = r := ⟨_, rfl⟩
  obtain ⟨bare, hbare⟩ : ∃ b, s.bare = b := ⟨_, rfl⟩
  obtain ⟨RN, hRN⟩ : ∃ RN : Nat, (RN : Int) = 1 + r % 6 := ⟨(1 + r % 6).toNat, by rw [hr] at r0; omega⟩
  have HRN : Hid ((RN : Int) = regsM s) := by show _ = _; unfold regsM; rw [hr, hRN]
  rw [hr] at r0 r1 ⊢
  rw [hbare]
  have HR := hid hr
  have HBR := hid hbare
  clear hr hbare
  have tr : r.tmod 6 = r % 6 := Int.tmod_eq_emod_of_nonneg (by omega)
  have qr : IntKind.u8.wrap (r % 6) = r % 6 := by rw [IntKind.wrap_u8]; omega
  have ur : IntKind.i64.wrap (r % 6) = r % 6 := by rw [IntKind.wrap_i64]; omega
  have vr : IntKind.i64.wrap (1 + r % 6) = (RN : Int) := by rw [IntKind.wrap_i64]; omega
  have hRN6 : RN ≤ 6 := by omega
  have hRN1 : 1 ≤ RN := by omega
  clear hRN
  have hm : Tryd.prog.follows .mixedOrders = true := by kernel_rfl
  go_enter Tryd.func22, Tryd.ntmps22
  go_wp2
  go_quiet (fail)
  go_wp2
  case inr =>
    rename_i h1
    have g0 : Gr w (((w.alloc (.cells #[.int .u8 r, .bool bare, .slice va s.bs.length vc] 48)).alloc (.cells #[.slice none 0 0] 52)).drewN nq) := (((Gr.refl w).alloc _).alloc _).drewN nq
    have z1 : (((w.alloc (.cells #[.int .u8 r, .bool bare, .slice va s.bs.length vc] 48)).alloc (.cells #[.slice none 0 0] 52)).drewN nq).cell? ⟨w.heap.size, 1, none⟩ = some (.bool s.bare) := by rw [HBR.out]; exact (((Gr.refl _).alloc _).drewN nq).boxed 1 rfl
    have z2 : (((w.alloc (.cells #[.int .u8 r, .bool bare, .slice va s.bs.length vc] 48)).alloc (.cells #[.slice none 0 0] 52)).drewN nq).cell? ⟨w.heap.size, 2, none⟩ = some s.bv := by rw [HBV.out]; exact (((Gr.refl _).alloc _).drewN nq).boxed 2 rfl
    have hsz : w.heap.size + 1 + 1 = (((w.alloc (.cells #[.int .u8 r, .bool bare, .slice va s.bs.length vc] 48)).alloc (.cells #[.slice none 0 0] 52)).drewN nq).heap.size := by simp
    have o1 : (((w.alloc (.cells #[.int .u8 r, .bool bare, .slice va s.bs.length vc] 48)).alloc (.cells #[.slice none 0 0] 52)).drewN nq).heap[w.heap.size + 1]? = some (.cells #[.slice none 0 0] 52 (0, 0)) := by
      have := heap_alloc_new (w.alloc (.cells #[.int .u8 r, .bool bare, .slice va s.bs.length vc] 48)) (.cells #[.slice none 0 0] 52)
      simpa using this
    rw [hsz]
    generalize ((w.alloc (.cells #[.int .u8 r, .bool bare, .slice va s.bs.length vc] 48)).alloc (.cells #[.slice none 0 0] 52)).drewN nq = W at g0 z1 z2 hsz o1 ⊢
    have HW := hid hsz
    clear hsz
    refine outer _ rfl _ s RN s.bs.length hRN6 hRN1 HRN.out ((show s.bs.length = lenM s by unfold lenM; omega)) hlen HL.out W _ (HK.out.gr g0) (HS.out.gr g0) w.heap.size W.heap.size z1 z2 _ _ _ _ _ _ _ _ _ _ _ _ _ _ _ _ _ _ _ _ _ _ _ _ _ _ _ _ _ _ _ _ _ _ _ _ _ _ _ _ _ _ _ _ _ _ _ _ _ _ _ _ _ _ _ _ _ _ _ _ _ _ _ _ _ _ _ _ _ _ _ _ _ _ _ _ _ _ _ _ _ _ _ _ _ _ _ _ _ _ ⟨none, 0, [], heap_alloc_new W _, ⟨Sl.nil _ _ _, by simp, by simp, by simp [blks], by simp⟩, by simp, (Gr.refl _).alloc _, Nat.le_refl _⟩ ?_
    intro x6 x7 x8 x9 x10 x21 x22 x23 x24 x25 x26 x27 x28 x29 x30 x31 x32 x33 x34 x35 x36 x37 x38 x39 x40 x41 x42 x43 x44 x45 x46 x47 x48 x49 x50 x51 x52 x53 x54 x55 x56 x57 x58 x59 x60 x61 x62 x63 x64 x65 x66 x67 x68 x69 x70 x71 x72 x73 x74 x75 x76 x77 x78 x79 x80 x81 x82 x83 x84 x85 x86 x87 x88 x89 x90 x91 x92 x93 x94 w' HP
    dsimp only [Exit.inBlock]
    rw [if_pos rfl]
    obtain ⟨va', vc', bs, q1, q2, q3, q4, q5⟩ := HP
    have c5 := cell_of_row w' W.heap.size 0 _ _ _ q1
    have o1' := q4.obj o1
    have c1 := cell_of_row w' (w.heap.size + 1) 0 _ _ _ o1'
    simp only [List.getElem?_toArray, List.getElem?_cons_zero] at c5 c1
    have fz : ∀ j, w'.frozen? ⟨w.heap.size + 1, j, none⟩ = false := fun j => frozen_of_row _ _ _ _ _ o1'
    have hl1 := lt_of_obj o1'
    have Q2 := hid q2
    have Q3 := hid q3
    have Q4 := hid q4
    have G0 := hid g0
    clear q1 q2 q3 q4 q5 g0 o1 o1' z1 z2
    go_wp2
    (try simp only [Exit.inBlock, Exit.then])
    refine bodyPost_ret (v := .agg #[.slice va' bs.length vc']) (by simp [results, Tryd.results22, go_sem, c1]) rfl ?_
    have hs0 := HW.out
    exact ⟨_, W.heap.size, bs, rfl, (Q2.out.kept (k := w.heap.size + 1) (by omega) ((Tch.refl _ w').setCell (.inl (by simp)) _)).back G0.out.size, by rw [Q3.out]; unfold progA; rw [← (show s.bs.length = lenM s by unfold lenM; omega)], (G0.out.trans Q4.out).setCell (by simp) _⟩
  case inl =>
    rename_i h1
    have g0 : Gr w (((w.alloc (.cells #[.int .u8 r, .bool bare, .slice va s.bs.length vc] 48)).alloc (.cells #[.slice none 0 0] 52)).drewN nq) := (((Gr.refl w).alloc _).alloc _).drewN nq
    have z1 : (((w.alloc (.cells #[.int .u8 r, .bool bare, .slice va s.bs.length vc] 48)).alloc (.cells #[.slice none 0 0] 52)).drewN nq).cell? ⟨w.heap.size, 1, none⟩ = some (.bool s.bare) := by rw [HBR.out]; exact (((Gr.refl _).alloc _).drewN nq).boxed 1 rfl
    have z2 : (((w.alloc (.cells #[.int .u8 r, .bool bare, .slice va s.bs.length vc] 48)).alloc (.cells #[.slice none 0 0] 52)).drewN nq).cell? ⟨w.heap.size, 2, none⟩ = some s.bv := by rw [HBV.out]; exact (((Gr.refl _).alloc _).drewN nq).boxed 2 rfl
    have hsz : w.heap.size + 1 + 1 = (((w.alloc (.cells #[.int .u8 r, .bool bare, .slice va s.bs.length vc] 48)).alloc (.cells #[.slice none 0 0] 52)).drewN nq).heap.size := by simp
    have o1 : (((w.alloc (.cells #[.int .u8 r, .bool bare, .slice va s.bs.length vc] 48)).alloc (.cells #[.slice none 0 0] 52)).drewN nq).heap[w.heap.size + 1]? = some (.cells #[.slice none 0 0] 52 (0, 0)) := by
      have := heap_alloc_new (w.alloc (.cells #[.int .u8 r, .bool bare, .slice va s.bs.length vc] 48)) (.cells #[.slice none 0 0] 52)
      simpa using this
    rw [hsz]
    generalize ((w.alloc (.cells #[.int .u8 r, .bool bare, .slice va s.bs.length vc] 48)).alloc (.cells #[.slice none 0 0] 52)).drewN nq = W at g0 z1 z2 hsz o1 ⊢
    have HW := hid hsz
    clear hsz
    refine outer _ rfl _ s RN 1 hRN6 hRN1 HRN.out ((show 1 = lenM s by unfold lenM; omega)) hlen HL.out W _ (HK.out.gr g0) (HS.out.gr g0) w.heap.size W.heap.size z1 z2 _ _ _ _ _ _ _ _ _ _ _ _ _ _ _ _ _ _ _ _ _ _ _ _ _ _ _ _ _ _ _ _ _ _ _ _ _ _ _ _ _ _ _ _ _ _ _ _ _ _ _ _ _ _ _ _ _ _ _ _ _ _ _ _ _ _ _ _ _ _ _ _ _ _ _ _ _ _ _ _ _ _ _ _ _ _ _ _ _ _ ⟨none, 0, [], heap_alloc_new W _, ⟨Sl.nil _ _ _, by simp, by simp, by simp [blks], by simp⟩, by simp, (Gr.refl _).alloc _, Nat.le_refl _⟩ ?_
    intro x6 x7 x8 x9 x10 x21 x22 x23 x24 x25 x26 x27 x28 x29 x30 x31 x32 x33 x34 x35 x36 x37 x38 x39 x40 x41 x42 x43 x44 x45 x46 x47 x48 x49 x50 x51 x52 x53 x54 x55 x56 x57 x58 x59 x60 x61 x62 x63 x64 x65 x66 x67 x68 x69 x70 x71 x72 x73 x74 x75 x76 x77 x78 x79 x80 x81 x82 x83 x84 x85 x86 x87 x88 x89 x90 x91 x92 x93 x94 w' HP
    dsimp only [Exit.inBlock]
    rw [if_pos rfl]
    obtain ⟨va', vc', bs, q1, q2, q3, q4, q5⟩ := HP
    have c5 := cell_of_row w' W.heap.size 0 _ _ _ q1
    have o1' := q4.obj o1
    have c1 := cell_of_row w' (w.heap.size + 1) 0 _ _ _ o1'
    simp only [List.getElem?_toArray, List.getElem?_cons_zero] at c5 c1
    have fz : ∀ j, w'.frozen? ⟨w.heap.size + 1, j, none⟩ = false := fun j => frozen_of_row _ _ _ _ _ o1'
    have hl1 := lt_of_obj o1'
    have Q2 := hid q2
    have Q3 := hid q3
    have Q4 := hid q4
    have G0 := hid g0
    clear q1 q2 q3 q4 q5 g0 o1 o1' z1 z2
    go_wp2
    (try simp only [Exit.inBlock, Exit.then])
    refine bodyPost_ret (v := .agg #[.slice va' bs.length vc']) (by simp [results, Tryd.results22, go_sem, c1]) rfl ?_
    have hs0 := HW.out
    exact ⟨_, W.heap.size, bs, rfl, (Q2.out.kept (k := w.heap.size + 1) (by omega) ((Tch.refl _ w').setCell (.inl (by simp)) _)).back G0.out.size, by rw [Q3.out]; unfold progA; rw [← (show 1 = lenM s by unfold lenM; omega)], (G0.out.trans Q4.out).setCell (by simp) _⟩
end Go.Proofs.YteiekjijbaohoaaDoor
