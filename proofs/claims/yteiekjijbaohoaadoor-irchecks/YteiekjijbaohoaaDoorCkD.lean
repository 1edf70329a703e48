/- IrChecks (P3.2: programs that may not be: why not): its walk, some cases of its switch. -/
import Derived.Test.YteiekjijbaohoaaDoorMod
import Derived.Test.YteiekjijbaohoaaDoorCkC
import Derived.Test.YteiekjijbaohoaaDoorMk
set_option linter.unusedSimpArgs false
set_option linter.unusedVariables false
namespace Go.Proofs.YteiekjijbaohoaaDoor
open Go.RowKit Go.Sort Go.Maps

set_option maxRecDepth 100000 in
set_option maxHeartbeats 2000000 in
theorem checks_no (s : SmlM) (what n : Int) (w : World) (hk : Kinds w) (hs : SmlOk w s) (hl : lightB s = false) :
    Calls Tryd.prog 6 #[.agg #[.int .u8 s.r, .bool s.bare, s.bv], .int .u8 what, .int .i64 n] w fun e w' => e = .returned (.bool true) ∧ Gr w w' := by
  have HK := hid hk
  have HA := hid (fun W (g : Gr w W) => awake W (hk.gr g))
  have HLI := hid (fun W (g : Gr w W) => light_any s W (hs.gr g))
  rw [hl] at HLI
  obtain ⟨va, vc, hbv, _⟩ := hs.b.shape
  rw [hbv] at HLI ⊢
  clear hl hk hs hbv
  generalize s.r = r at HLI ⊢
  generalize s.bare = bare at HLI ⊢
  have hm : Tryd.prog.follows .mixedOrders = true := by kernel_rfl
  go_enter Tryd.func6, Tryd.ntmps6
  go_wp2_with (fail)
  refine (HA.out _ (((Gr.refl w).alloc _).alloc _)).mono ?_
  rintro e w1 ⟨rfl, g1⟩
  dsimp only
  have c0 := (((Gr.refl _).alloc _).trans g1).boxed 0 (u := .int .u8 r) rfl
  have c1 := (((Gr.refl _).alloc _).trans g1).boxed 1 (u := .bool bare) rfl
  have c2 := (((Gr.refl _).alloc _).trans g1).boxed 2 (u := .slice va s.bs.length vc) rfl
  have cn := g1.boxed 0 (u := .int .i64 n) rfl
  simp only [World.size_alloc] at cn
  have G1 := hid ((((Gr.refl w).alloc _).alloc _).trans g1)
  have lc := cell_lt c0
  have ln := cell_lt cn
  simp only at lc ln
  clear g1
  generalize w.heap.size + 1 = nb at cn ln ⊢
  go_wp2_with (fail)
  refine (HLI.out _ G1.out).mono ?_
  rintro e w2 ⟨rfl, g2⟩
  dsimp only
  go_wp2_with (fail)
  go_ret
  exact ⟨rfl, G1.out.trans g2⟩
set_option maxRecDepth 100000 in
set_option maxHeartbeats 2000000 in
theorem checks_0 (s : SmlM) (what n : Int) (w : World) (hk : Kinds w) (hs : SmlOk w s) (h0 : 0 ≤ what) (h1 : what ≤ 255) (n0 : -9223372036854775808 ≤ n) (n1 : n ≤ 9223372036854775807) (hl : lightB s = true) (h14 : what % 14 = 0) :
    Calls Tryd.prog 6 #[.agg #[.int .u8 s.r, .bool s.bare, s.bv], .int .u8 what, .int .i64 n] w fun e w' => e = .returned (.bool true) ∧ Gr w w' := by
  have hl2 : (∀ b ∈ s.bs, b.ls.length ≤ 10) ∧ s.bs.length ≤ 8 := by simpa [lightB] using hl
  have HL2 := hid hl2
  have HK := hid hk
  have HA := hid (fun W (g : Gr w W) => awake W (hk.gr g))
  have HLI := hid (fun W (g : Gr w W) => light_any s W (hs.gr g))
  have HPR := hid (fun W (g : Gr w W) => program_any s W (hk.gr g) (hs.gr g) hl)
  rw [hl] at HLI
  obtain ⟨va, vc, hbv, _⟩ := hs.b.shape
  rw [hbv] at HLI HPR ⊢
  have tm : what.tmod 14 = 0 := by rw [Int.tmod_eq_emod_of_nonneg h0]; exact h14
  clear hl2 hl hk hs hbv h14 h0 h1
  generalize s.r = r at HLI HPR ⊢
  generalize s.bare = bare at HLI HPR ⊢
  have hm : Tryd.prog.follows .mixedOrders = true := by kernel_rfl
  go_enter Tryd.func6, Tryd.ntmps6
  go_wp2_with (fail)
  refine (HA.out _ (((Gr.refl w).alloc _).alloc _)).mono ?_
  rintro e w1 ⟨rfl, g1⟩
  dsimp only
  have c0 := (((Gr.refl _).alloc _).trans g1).boxed 0 (u := .int .u8 r) rfl
  have c1 := (((Gr.refl _).alloc _).trans g1).boxed 1 (u := .bool bare) rfl
  have c2 := (((Gr.refl _).alloc _).trans g1).boxed 2 (u := .slice va s.bs.length vc) rfl
  have cn := g1.boxed 0 (u := .int .i64 n) rfl
  simp only [World.size_alloc] at cn
  have G1 := hid ((((Gr.refl w).alloc _).alloc _).trans g1)
  have lc := cell_lt c0
  have ln := cell_lt cn
  simp only at lc ln
  clear g1
  generalize w.heap.size + 1 = nb at cn ln ⊢
  go_wp2_with (fail)
  refine (HLI.out _ G1.out).mono ?_
  rintro e w2 ⟨rfl, g2⟩
  dsimp only
  replace c0 := g2.val c0
  replace c1 := g2.val c1
  replace c2 := g2.val c2
  replace cn := g2.val cn
  have G2 := hid (G1.out.trans g2)
  replace lc := cell_lt c0
  replace ln := cell_lt cn
  simp only at lc ln
  have HLN2 := hid ln
  clear g2 G1
  go_wp2_with (fail)
  refine (HPR.out _ G2.out).mono ?_
  rintro e w3 ⟨v, bp, bs, rfl, own, hab, g3⟩
  dsimp only
  replace cn := g3.val cn
  replace ln := cell_lt cn
  simp only at ln
  have lw3 := g3.size
  have G3 := hid (G2.out.trans g3)
  have P1 := hid (prog1 HL2.out.2 HL2.out.1 hab (fun B hB => (own.p B hB).2))
  clear c0 c1 c2 lc hab HLI HPR HA g3
  obtain ⟨init, B, rfl⟩ : ∃ init B, bs = init ++ [B] := by
    rcases List.eq_nil_or_concat bs with h | ⟨i, b, h⟩
    · have := P1.out.n; rw [h] at this; have := len_in s HL2.out.2; simp at *; omega
    · exact ⟨i, b, by simpa using h⟩
  obtain ⟨m, hm0⟩ : ∃ m, init.length = m := ⟨_, rfl⟩
  have HM := hid hm0
  have hlen : (init ++ [B]).length = m + 1 := by simp [hm0]
  have hm8 : m ≤ 7 := by have := P1.out.n; have := len_in s HL2.out.2; omega
  have OB := hid own.b
  obtain ⟨b, off, c, hv⟩ := own.b.ptr (by omega)
  rw [hlen] at hv
  subst hv
  have OWN := hid own
  obtain ⟨ia, ic, hiv⟩ := (own.i B (by simp)).shape
  have hpv := (own.p B (by simp)).1
  obtain ⟨b0, b1, b2, b3, b4, b5, b6⟩ := blk_at own.b m (x := B) (by rw [← hm0]; simp)
  rw [hpv] at b1
  rw [hiv] at b2
  have HIV := hid hiv
  have HPV := hid hpv
  have fzb := own.b.cell.2.2.1
  have lb := own.b.cell.2.2.2
  clear own hm0 hiv hpv
  have hix : IntKind.i64.wrap ((m + 1 : Nat) - 1 : Int) = (m : Int) := by rw [IntKind.wrap_i64]; omega
  rw [hlen] at OB
  clear hlen
  obtain ⟨cur, hmk, hsl⟩ := make_blocks
  have HSL := hid hsl
  clear hsl
  go_wp2_with (fail)
  have GG : Gr w3 (((w3.alloc (.cells #[(.slice (some ⟨w3.heap.size + 1 + 1, 0, none⟩) 401 401)] 52)).alloc (.cells #[.pointer (some ⟨b, off + m * 7, none⟩)] 70)).alloc (.cells cur 60)) := (((Gr.refl w3).alloc _).alloc _).alloc _
  have SS := HSL.out ((w3.alloc (.cells #[(.slice (some ⟨w3.heap.size + 1 + 1, 0, none⟩) 401 401)] 52)).alloc (.cells #[.pointer (some ⟨b, off + m * 7, none⟩)] 70))
  simp only [World.size_alloc] at SS
  have CK := check_any _ _ _ (HK.out.gr (G3.out.trans GG)) (zeroB_ok _ _ SS) zeroB_wf (by rw [cnt_rep]; decide)
  rw [check_many] at CK
  refine CK.mono ?_
  rintro e w9 ⟨rfl, g9⟩
  go_wp2_with (fail)
  go_ret
  exact ⟨rfl, (G3.out.trans GG).trans g9⟩
set_option maxRecDepth 100000 in
set_option maxHeartbeats 2000000 in
theorem checks_1 (s : SmlM) (what n : Int) (w : World) (hk : Kinds w) (hs : SmlOk w s) (h0 : 0 ≤ what) (h1 : what ≤ 255) (n0 : -9223372036854775808 ≤ n) (n1 : n ≤ 9223372036854775807) (hl : lightB s = true) (h14 : what % 14 = 1) :
    Calls Tryd.prog 6 #[.agg #[.int .u8 s.r, .bool s.bare, s.bv], .int .u8 what, .int .i64 n] w fun e w' => e = .returned (.bool true) ∧ Gr w w' := by
  have hl2 : (∀ b ∈ s.bs, b.ls.length ≤ 10) ∧ s.bs.length ≤ 8 := by simpa [lightB] using hl
  have HL2 := hid hl2
  have HK := hid hk
  have HA := hid (fun W (g : Gr w W) => awake W (hk.gr g))
  have HLI := hid (fun W (g : Gr w W) => light_any s W (hs.gr g))
  have HPR := hid (fun W (g : Gr w W) => program_any s W (hk.gr g) (hs.gr g) hl)
  rw [hl] at HLI
  obtain ⟨va, vc, hbv, _⟩ := hs.b.shape
  rw [hbv] at HLI HPR ⊢
  have tm : what.tmod 14 = 1 := by rw [Int.tmod_eq_emod_of_nonneg h0]; exact h14
  clear hl2 hl hk hs hbv h14 h0 h1
  generalize s.r = r at HLI HPR ⊢
  generalize s.bare = bare at HLI HPR ⊢
  have hm : Tryd.prog.follows .mixedOrders = true := by kernel_rfl
  go_enter Tryd.func6, Tryd.ntmps6
  go_wp2_with (fail)
  refine (HA.out _ (((Gr.refl w).alloc _).alloc _)).mono ?_
  rintro e w1 ⟨rfl, g1⟩
  dsimp only
  have c0 := (((Gr.refl _).alloc _).trans g1).boxed 0 (u := .int .u8 r) rfl
  have c1 := (((Gr.refl _).alloc _).trans g1).boxed 1 (u := .bool bare) rfl
  have c2 := (((Gr.refl _).alloc _).trans g1).boxed 2 (u := .slice va s.bs.length vc) rfl
  have cn := g1.boxed 0 (u := .int .i64 n) rfl
  simp only [World.size_alloc] at cn
  have G1 := hid ((((Gr.refl w).alloc _).alloc _).trans g1)
  have lc := cell_lt c0
  have ln := cell_lt cn
  simp only at lc ln
  clear g1
  generalize w.heap.size + 1 = nb at cn ln ⊢
  go_wp2_with (fail)
  refine (HLI.out _ G1.out).mono ?_
  rintro e w2 ⟨rfl, g2⟩
  dsimp only
  replace c0 := g2.val c0
  replace c1 := g2.val c1
  replace c2 := g2.val c2
  replace cn := g2.val cn
  have G2 := hid (G1.out.trans g2)
  replace lc := cell_lt c0
  replace ln := cell_lt cn
  simp only at lc ln
  have HLN2 := hid ln
  clear g2 G1
  go_wp2_with (fail)
  refine (HPR.out _ G2.out).mono ?_
  rintro e w3 ⟨v, bp, bs, rfl, own, hab, g3⟩
  dsimp only
  replace cn := g3.val cn
  replace ln := cell_lt cn
  simp only at ln
  have lw3 := g3.size
  have G3 := hid (G2.out.trans g3)
  have P1 := hid (prog1 HL2.out.2 HL2.out.1 hab (fun B hB => (own.p B hB).2))
  clear c0 c1 c2 lc hab HLI HPR HA g3
  obtain ⟨init, B, rfl⟩ : ∃ init B, bs = init ++ [B] := by
    rcases List.eq_nil_or_concat bs with h | ⟨i, b, h⟩
    · have := P1.out.n; rw [h] at this; have := len_in s HL2.out.2; simp at *; omega
    · exact ⟨i, b, by simpa using h⟩
  obtain ⟨m, hm0⟩ : ∃ m, init.length = m := ⟨_, rfl⟩
  have HM := hid hm0
  have hlen : (init ++ [B]).length = m + 1 := by simp [hm0]
  have hm8 : m ≤ 7 := by have := P1.out.n; have := len_in s HL2.out.2; omega
  have OB := hid own.b
  obtain ⟨b, off, c, hv⟩ := own.b.ptr (by omega)
  rw [hlen] at hv
  subst hv
  have OWN := hid own
  obtain ⟨ia, ic, hiv⟩ := (own.i B (by simp)).shape
  have hpv := (own.p B (by simp)).1
  obtain ⟨b0, b1, b2, b3, b4, b5, b6⟩ := blk_at own.b m (x := B) (by rw [← hm0]; simp)
  rw [hpv] at b1
  rw [hiv] at b2
  have HIV := hid hiv
  have HPV := hid hpv
  have fzb := own.b.cell.2.2.1
  have lb := own.b.cell.2.2.2
  clear own hm0 hiv hpv
  have hix : IntKind.i64.wrap ((m + 1 : Nat) - 1 : Int) = (m : Int) := by rw [IntKind.wrap_i64]; omega
  rw [hlen] at OB
  clear hlen
  obtain ⟨cur, hmk, hsl⟩ := make_instrs
  have HSL := hid hsl
  clear hsl
  go_wp2_with (fail)
  refine wp_region_noPanic ?_
  have gW : Gr w3 ((w3.alloc (.cells #[(.slice (some ⟨b, off, none⟩) (m + 1) c)] 52)).alloc (.cells #[.pointer (some ⟨b, off + m * 7, none⟩)] 70)).drew := (((Gr.refl w3).alloc _).alloc _).drew
  have cqq : ((w3.alloc (.cells #[(.slice (some ⟨b, off, none⟩) (m + 1) c)] 52)).alloc (.cells #[.pointer (some ⟨b, off + m * 7, none⟩)] 70)).drew.cell? ⟨w3.heap.size + 1, 0, none⟩ = some (.pointer (some ⟨b, off + m * 7, none⟩)) := by have := ((Gr.refl ((w3.alloc (.cells #[(.slice (some ⟨b, off, none⟩) (m + 1) c)] 52)).alloc (.cells #[.pointer (some ⟨b, off + m * 7, none⟩)] 70))).drew).boxed 0 (u := .pointer (some ⟨b, off + m * 7, none⟩)) rfl; simpa only [World.size_alloc] using this
  have cp : ((w3.alloc (.cells #[(.slice (some ⟨b, off, none⟩) (m + 1) c)] 52)).alloc (.cells #[.pointer (some ⟨b, off + m * 7, none⟩)] 70)).drew.cell? ⟨w3.heap.size, 0, none⟩ = some (.slice (some ⟨b, off, none⟩) (m + 1) c) := (((Gr.refl _).alloc _).drew).boxed 0 rfl
  have obp : ((w3.alloc (.cells #[(.slice (some ⟨b, off, none⟩) (m + 1) c)] 52)).alloc (.cells #[.pointer (some ⟨b, off + m * 7, none⟩)] 70)).drew.heap[w3.heap.size]? = some (.cells #[(.slice (some ⟨b, off, none⟩) (m + 1) c)] 52 (0, 0)) := (((Gr.refl _).alloc _).drew).obj (heap_alloc_new w3 _)
  have wz0 := gW.val b0
  have wz1 := gW.val b1
  have wz2 := gW.val b2
  have wz3 := gW.val b3
  have wz4 := gW.val b4
  have wz5 := gW.val b5
  have wz6 := gW.val b6
  have fz1 : ∀ j, ((w3.alloc (.cells #[(.slice (some ⟨b, off, none⟩) (m + 1) c)] 52)).alloc (.cells #[.pointer (some ⟨b, off + m * 7, none⟩)] 70)).drew.frozen? ⟨b, j, none⟩ = false := fun j => (gW.frozen (p := ⟨b, j, none⟩) lb).trans (fzb j)
  have lb1 := Nat.lt_of_lt_of_le lb gW.size
  have hbq : ¬ b = w3.heap.size + 1 := by omega
  have hbp : ¬ b = w3.heap.size := by omega
  have GW := hid gW
  have lq1 := cell_lt cqq
  have lp1 := cell_lt cp
  simp only at lq1 lp1
  have OBP := hid obp
  clear obp b0 b1 b2 b3 b4 b5 b6 fzb gW
  refine wp_region_held_drew (S := fun w' => w'.cell? ⟨w3.heap.size + 1, 0, none⟩ = some (.pointer (some ⟨b, off + m * 7, none⟩))) hm cqq (fun hHeld => ?_)
  generalize ((w3.alloc (.cells #[(.slice (some ⟨b, off, none⟩) (m + 1) c)] 52)).alloc (.cells #[.pointer (some ⟨b, off + m * 7, none⟩)] 70)).drew = W1 at *
  refine wpAnyH_take (i := 0) (oi := { dst := some 51, op := Go.Op.load 70 (Go.Operand.tmp 8), type := 70, pos := "law.go:230", after := #[], guard := none }) (v := ?_) rfl (by kernel_rfl) (by kernel_rfl) (by kernel_rfl) (fun _ _ _ h => h) (Or.inl ⟨by rfl, ?_⟩) (by assumption) ?_
  rotate_left
  (intro w hSw; (try dsimp only at hSw); go_simp; try (with_reducible rfl))
  simp only [Act.put, List.setIfInBounds_toArray, List.set_cons_zero, List.set_cons_succ]
  refine wpAnyH_ready (rs := [1]) (by kernel_rfl) (by simp) (AllReadyH.cons (o := { dst := some 52, op := Go.Op.makeSlice 31 (Go.Operand.const (Go.Value.int Go.IntKind.i64 4000)) (Go.Operand.const (Go.Value.int Go.IntKind.i64 4000)), type := 31, pos := "law.go:230", after := #[], guard := none }) rfl (fun K hK => ?_) AllReadyH.nil)
  go_simp
  refine hK.out _ _ (((Gr.refl _).alloc _).val (by assumption)) (fun hH2 => ?_)
  clear hHeld hK K
  have hHeld := hH2
  clear hH2
  try simp only [Act.put, List.setIfInBounds_toArray, List.set_cons_zero, List.set_cons_succ]
  have gA : Gr W1 (W1.alloc (.cells cur 25)) := (Gr.refl W1).alloc _
  have II0 := hid (HSL.out W1)
  have wa2 := gA.val wz2
  have cpa := gA.val cp
  have fza : ∀ j, (W1.alloc (.cells cur 25)).frozen? ⟨b, j, none⟩ = false := fun j => (gA.frozen (p := ⟨b, j, none⟩) lb1).trans (fz1 j)
  have lba := Nat.lt_of_lt_of_le lb1 gA.size
  have GA := hid gA
  clear gA wz0 wz1 wz2 wz3 wz4 wz5 wz6 cp fz1
  generalize W1.alloc (.cells cur 25) = WA at *
  refine wpAnyH_take (i := 2) (oi := { dst := some 53, op := Go.Op.nilCheck (Go.Operand.tmp 51), type := 0, pos := "law.go:230", after := #[{ on := 0, ground := Go.Ground.data }, { on := 0, ground := Go.Ground.phase }, { on := 1, ground := Go.Ground.phase }], guard := none }) (v := ?_) rfl (by kernel_rfl) (by kernel_rfl) (by kernel_rfl) (fun _ _ _ h => h) (Or.inl ⟨by rfl, ?_⟩) (by assumption) ?_
  rotate_left
  (intro w hSw; (try dsimp only at hSw); go_simp; try (with_reducible rfl))
  simp only [Act.put, List.setIfInBounds_toArray, List.set_cons_zero, List.set_cons_succ]
  refine wpAnyH_take (i := 3) (oi := { dst := some 54, op := Go.Op.fieldAddr 60 (Go.Operand.tmp 53) 2, type := 0, pos := "law.go:230", after := #[{ on := 2, ground := Go.Ground.data }, { on := 0, ground := Go.Ground.phase }, { on := 1, ground := Go.Ground.phase }], guard := none }) (v := ?_) rfl (by kernel_rfl) (by kernel_rfl) (by kernel_rfl) (fun _ _ _ h => h) (Or.inl ⟨by rfl, ?_⟩) (by assumption) ?_
  rotate_left
  (intro w hSw; (try dsimp only at hSw); go_simp; try (with_reducible rfl))
  simp only [Act.put, List.setIfInBounds_toArray, List.set_cons_zero, List.set_cons_succ]
  refine wpAnyH_ready (rs := [4]) (by kernel_rfl) (by simp) (AllReadyH.cons (o := { dst := none, op := Go.Op.store 31 (Go.Operand.tmp 54) (Go.Operand.tmp 52), type := 0, pos := "law.go:230", after := #[{ on := 3, ground := Go.Ground.data }, { on := 1, ground := Go.Ground.data }, { on := 0, ground := Go.Ground.phase }, { on := 1, ground := Go.Ground.phase }], guard := none }) rfl (fun K hK => ?_) AllReadyH.nil)
  go_simp
  refine hK.out _ _ ((World.cell?_setCell_far WA ⟨b, off + m * 7 + 2, none⟩ ⟨w3.heap.size + 1, 0, none⟩ _ hbq).trans (by assumption)) (fun hH2 => ?_)
  clear hHeld hK K
  have hHeld := hH2
  clear hH2
  try simp only [Act.put, List.setIfInBounds_toArray, List.set_cons_zero, List.set_cons_succ]
  refine wpAnyH_take (i := 5) (oi := { dst := some 10, op := Go.Op.assign (Go.Operand.const (Go.Value.int Go.IntKind.i64 3)), type := 54, pos := "law.go:230", after := #[{ on := 4, ground := Go.Ground.chain }, { on := 0, ground := Go.Ground.phase }, { on := 1, ground := Go.Ground.phase }, { on := 2, ground := Go.Ground.phase }, { on := 3, ground := Go.Ground.phase }, { on := 4, ground := Go.Ground.phase }], guard := none }) (v := ?_) rfl (by kernel_rfl) (by kernel_rfl) (by kernel_rfl) (fun _ _ _ h => h) (Or.inl ⟨by rfl, ?_⟩) (by assumption) ?_
  rotate_left
  (intro w hSw; (try dsimp only at hSw); go_simp; try (with_reducible rfl))
  simp only [Act.put, List.setIfInBounds_toArray, List.set_cons_zero, List.set_cons_succ]
  refine wpAnyH_done (by kernel_rfl) (NoPanic.normal ?_) _
  go_simp
  have gA := GA.out
  have hwb : w.heap.size ≤ b := Nat.le_trans G2.out.size (OWN.out.o b (by simp [blks])).1
  have TT : Tch [b] w3 (WA.setCell ⟨b, off + m * 7 + 2, none⟩ (.slice (some ⟨W1.heap.size, 0, none⟩) 4000 4000)) := ((GW.out.trans gA).tch.mono (by simp)).setCell (.inl (by simp)) _
  have GG : Gr w (WA.setCell ⟨b, off + m * 7 + 2, none⟩ (.slice (some ⟨W1.heap.size, 0, none⟩) 4000 4000)) := (G3.out.trans (GW.out.trans gA)).setCell hwb _
  have SS : Sl (WA.setCell ⟨b, off + m * 7 + 2, none⟩ (.slice (some ⟨W1.heap.size, 0, none⟩) 4000 4000)) 60 7 (.slice (some ⟨b, off, none⟩) (m + 1) c) (m + 1) (blkC (init ++ [{ B with iv := (.slice (some ⟨W1.heap.size, 0, none⟩) 4000 4000), ins := List.replicate 4000 zeroI }])) := sl_last (B' := { B with iv := (.slice (some ⟨W1.heap.size, 0, none⟩) 4000 4000), ins := List.replicate 4000 zeroI }) HM.out (OB.out.gr (GW.out.trans gA)) 2 (by omega) (.slice (some ⟨W1.heap.size, 0, none⟩) 4000 4000) rfl
  have cp2 : (WA.setCell ⟨b, off + m * 7 + 2, none⟩ (.slice (some ⟨W1.heap.size, 0, none⟩) 4000 4000)).cell? ⟨w3.heap.size, 0, none⟩ = some (.slice (some ⟨b, off, none⟩) (m + 1) c) := (World.cell?_setCell_far _ _ _ _ hbp).trans cpa
  have hln : (init ++ [{ B with iv := (.slice (some ⟨W1.heap.size, 0, none⟩) 4000 4000), ins := List.replicate 4000 zeroI }]).length = m + 1 := by rw [List.length_append, HM.out]; rfl
  have hgo := P1.out.g B (by simp)
  have hph := P1.out.p B (by simp)
  have II : Sl (WA.setCell ⟨b, off + m * 7 + 2, none⟩ (.slice (some ⟨W1.heap.size, 0, none⟩) 4000 4000)) 25 7 (.slice (some ⟨W1.heap.size, 0, none⟩) 4000 4000) 4000 (insC (List.replicate 4000 zeroI)) := II0.out.kept (S := [b]) ((Tch.refl _ _).setCell (.inl (by simp)) _) (fun z hz hm => by simp [blks] at hz hm; omega)
  have PP := own_prog (B' := { B with iv := (.slice (some ⟨W1.heap.size, 0, none⟩) 4000 4000), ins := List.replicate 4000 zeroI }) OWN.out TT (by simp [blks]) (by rw [hln]; exact SS) ⟨by show Sl _ 57 3 B.pv B.phis.length (phiC B.phis); rw [HPV.out, hph]; exact Sl.nil _ _ _, fun y hy => by have hy2 : y ∈ B.phis := hy; rw [hph] at hy2; simp at hy2, by show Sl _ 25 7 (.slice (some ⟨W1.heap.size, 0, none⟩) 4000 4000) (List.replicate 4000 zeroI).length _; rw [List.length_replicate]; exact II⟩
  have hcl := check_size (B' := { B with iv := (.slice (some ⟨W1.heap.size, 0, none⟩) 4000 4000), ins := List.replicate 4000 zeroI }) HL2.out.2 P1.out (by show B.phis.length + (List.replicate 4000 zeroI).length = 4000; rw [List.length_replicate, hph]; rfl)
  have WF := wf_last (B' := { B with iv := (.slice (some ⟨W1.heap.size, 0, none⟩) 4000 4000), ins := List.replicate 4000 zeroI }) P1.out ⟨hgo.b, hgo.y, hgo.n, fun q hq => by have hq2 : q ∈ B.phis := hq; rw [hph] at hq2; simp at hq2, fun q hq => by
    obtain rfl := List.eq_of_mem_replicate (show q ∈ List.replicate 4000 zeroI from hq)
    exact Int.le_refl _⟩
  have CKh := hid (check_any (.slice (some ⟨b, off, none⟩) (m + 1) c) _ (WA.setCell ⟨b, off + m * 7 + 2, none⟩ (.slice (some ⟨W1.heap.size, 0, none⟩) 4000 4000)) (HK.out.gr GG) PP WF hcl.2)
  rw [hcl.1] at CKh
  have GGh := hid GG
  have l2 := cell_lt cp2
  simp only at l2
  clear gA hwb TT GG SS hln hgo hph II PP hcl WF HSL OWN OB
  generalize (WA.setCell ⟨b, off + m * 7 + 2, none⟩ (.slice (some ⟨W1.heap.size, 0, none⟩) 4000 4000)) = W2 at *
  go_wp2_with (fail)
  refine CKh.out.mono ?_
  rintro e w9 ⟨rfl, g9⟩
  go_wp2_with (fail)
  go_ret
  exact ⟨rfl, GGh.out.trans g9⟩
set_option maxRecDepth 100000 in
set_option maxHeartbeats 2000000 in
theorem checks_2_a (s : SmlM) (what n : Int) (w : World) (hk : Kinds w) (hs : SmlOk w s) (h0 : 0 ≤ what) (h1 : what ≤ 255) (n0 : -9223372036854775808 ≤ n) (n1 : n ≤ 9223372036854775807) (hl : lightB s = true) (h14 : what % 14 = 2) (hx : ¬ (n < 0 ∨ 99999 < n)) :
    Calls Tryd.prog 6 #[.agg #[.int .u8 s.r, .bool s.bare, s.bv], .int .u8 what, .int .i64 n] w fun e w' => e = .returned (.bool true) ∧ Gr w w' := by
  have hl2 : (∀ b ∈ s.bs, b.ls.length ≤ 10) ∧ s.bs.length ≤ 8 := by simpa [lightB] using hl
  have HL2 := hid hl2
  have HK := hid hk
  have HA := hid (fun W (g : Gr w W) => awake W (hk.gr g))
  have HLI := hid (fun W (g : Gr w W) => light_any s W (hs.gr g))
  have HPR := hid (fun W (g : Gr w W) => program_any s W (hk.gr g) (hs.gr g) hl)
  rw [hl] at HLI
  obtain ⟨va, vc, hbv, _⟩ := hs.b.shape
  rw [hbv] at HLI HPR ⊢
  have tm : what.tmod 14 = 2 := by rw [Int.tmod_eq_emod_of_nonneg h0]; exact h14
  clear hl2 hl hk hs hbv h14 h0 h1
  generalize s.r = r at HLI HPR ⊢
  generalize s.bare = bare at HLI HPR ⊢
  have hm : Tryd.prog.follows .mixedOrders = true := by kernel_rfl
  go_enter Tryd.func6, Tryd.ntmps6
  go_wp2_with (fail)
  refine (HA.out _ (((Gr.refl w).alloc _).alloc _)).mono ?_
  rintro e w1 ⟨rfl, g1⟩
  dsimp only
  have c0 := (((Gr.refl _).alloc _).trans g1).boxed 0 (u := .int .u8 r) rfl
  have c1 := (((Gr.refl _).alloc _).trans g1).boxed 1 (u := .bool bare) rfl
  have c2 := (((Gr.refl _).alloc _).trans g1).boxed 2 (u := .slice va s.bs.length vc) rfl
  have cn := g1.boxed 0 (u := .int .i64 n) rfl
  simp only [World.size_alloc] at cn
  have G1 := hid ((((Gr.refl w).alloc _).alloc _).trans g1)
  have lc := cell_lt c0
  have ln := cell_lt cn
  simp only at lc ln
  clear g1
  generalize w.heap.size + 1 = nb at cn ln ⊢
  go_wp2_with (fail)
  refine (HLI.out _ G1.out).mono ?_
  rintro e w2 ⟨rfl, g2⟩
  dsimp only
  replace c0 := g2.val c0
  replace c1 := g2.val c1
  replace c2 := g2.val c2
  replace cn := g2.val cn
  have G2 := hid (G1.out.trans g2)
  replace lc := cell_lt c0
  replace ln := cell_lt cn
  simp only at lc ln
  have HLN2 := hid ln
  clear g2 G1
  go_wp2_with (fail)
  refine (HPR.out _ G2.out).mono ?_
  rintro e w3 ⟨v, bp, bs, rfl, own, hab, g3⟩
  dsimp only
  replace cn := g3.val cn
  replace ln := cell_lt cn
  simp only at ln
  have lw3 := g3.size
  have G3 := hid (G2.out.trans g3)
  have P1 := hid (prog1 HL2.out.2 HL2.out.1 hab (fun B hB => (own.p B hB).2))
  clear c0 c1 c2 lc hab HLI HPR HA g3
  obtain ⟨init, B, rfl⟩ : ∃ init B, bs = init ++ [B] := by
    rcases List.eq_nil_or_concat bs with h | ⟨i, b, h⟩
    · have := P1.out.n; rw [h] at this; have := len_in s HL2.out.2; simp at *; omega
    · exact ⟨i, b, by simpa using h⟩
  obtain ⟨m, hm0⟩ : ∃ m, init.length = m := ⟨_, rfl⟩
  have HM := hid hm0
  have hlen : (init ++ [B]).length = m + 1 := by simp [hm0]
  have hm8 : m ≤ 7 := by have := P1.out.n; have := len_in s HL2.out.2; omega
  have OB := hid own.b
  obtain ⟨b, off, c, hv⟩ := own.b.ptr (by omega)
  rw [hlen] at hv
  subst hv
  have OWN := hid own
  obtain ⟨ia, ic, hiv⟩ := (own.i B (by simp)).shape
  have hpv := (own.p B (by simp)).1
  obtain ⟨b0, b1, b2, b3, b4, b5, b6⟩ := blk_at own.b m (x := B) (by rw [← hm0]; simp)
  rw [hpv] at b1
  rw [hiv] at b2
  have HIV := hid hiv
  have HPV := hid hpv
  have fzb := own.b.cell.2.2.1
  have lb := own.b.cell.2.2.2
  clear own hm0 hiv hpv
  have hix : IntKind.i64.wrap ((m + 1 : Nat) - 1 : Int) = (m : Int) := by rw [IntKind.wrap_i64]; omega
  rw [hlen] at OB
  clear hlen
  have gq : Gr w3 ((w3.alloc (.cells #[(.slice (some ⟨b, off, none⟩) (m + 1) c)] 52)).alloc (.cells #[.pointer (some ⟨b, off + m * 7, none⟩)] 70)) := ((Gr.refl w3).alloc _).alloc _
  have cnq := gq.val cn
  have HO := out_any 0 99999 n nb ((w3.alloc (.cells #[(.slice (some ⟨b, off, none⟩) (m + 1) c)] 52)).alloc (.cells #[.pointer (some ⟨b, off + m * 7, none⟩)] 70)) cnq
  rw [show outE n 0 99999 = 0 by unfold outE; rw [if_neg hx]] at HO
  have HOh := hid HO
  have GQ := hid gq
  have HX := hid hx
  clear HO gq cnq hx
  go_wp2_with (fail)
  refine HOh.out.mono ?_
  rintro e W6 ⟨rfl, g6⟩
  dsimp only
  go_wp2_with (fail)
  go_ret
  exact ⟨rfl, (G3.out.trans GQ.out).trans g6⟩
set_option maxRecDepth 100000 in
set_option maxHeartbeats 2000000 in
theorem checks_2_b (s : SmlM) (what n : Int) (w : World) (hk : Kinds w) (hs : SmlOk w s) (h0 : 0 ≤ what) (h1 : what ≤ 255) (n0 : -9223372036854775808 ≤ n) (n1 : n ≤ 9223372036854775807) (hl : lightB s = true) (h14 : what % 14 = 2) (hx : n < 0 ∨ 99999 < n) :
    Calls Tryd.prog 6 #[.agg #[.int .u8 s.r, .bool s.bare, s.bv], .int .u8 what, .int .i64 n] w fun e w' => e = .returned (.bool true) ∧ Gr w w' := by
  have hl2 : (∀ b ∈ s.bs, b.ls.length ≤ 10) ∧ s.bs.length ≤ 8 := by simpa [lightB] using hl
  have HL2 := hid hl2
  have HK := hid hk
  have HA := hid (fun W (g : Gr w W) => awake W (hk.gr g))
  have HLI := hid (fun W (g : Gr w W) => light_any s W (hs.gr g))
  have HPR := hid (fun W (g : Gr w W) => program_any s W (hk.gr g) (hs.gr g) hl)
  rw [hl] at HLI
  obtain ⟨va, vc, hbv, _⟩ := hs.b.shape
  rw [hbv] at HLI HPR ⊢
  have tm : what.tmod 14 = 2 := by rw [Int.tmod_eq_emod_of_nonneg h0]; exact h14
  clear hl2 hl hk hs hbv h14 h0 h1
  generalize s.r = r at HLI HPR ⊢
  generalize s.bare = bare at HLI HPR ⊢
  have hm : Tryd.prog.follows .mixedOrders = true := by kernel_rfl
  go_enter Tryd.func6, Tryd.ntmps6
  go_wp2_with (fail)
  refine (HA.out _ (((Gr.refl w).alloc _).alloc _)).mono ?_
  rintro e w1 ⟨rfl, g1⟩
  dsimp only
  have c0 := (((Gr.refl _).alloc _).trans g1).boxed 0 (u := .int .u8 r) rfl
  have c1 := (((Gr.refl _).alloc _).trans g1).boxed 1 (u := .bool bare) rfl
  have c2 := (((Gr.refl _).alloc _).trans g1).boxed 2 (u := .slice va s.bs.length vc) rfl
  have cn := g1.boxed 0 (u := .int .i64 n) rfl
  simp only [World.size_alloc] at cn
  have G1 := hid ((((Gr.refl w).alloc _).alloc _).trans g1)
  have lc := cell_lt c0
  have ln := cell_lt cn
  simp only at lc ln
  clear g1
  generalize w.heap.size + 1 = nb at cn ln ⊢
  go_wp2_with (fail)
  refine (HLI.out _ G1.out).mono ?_
  rintro e w2 ⟨rfl, g2⟩
  dsimp only
  replace c0 := g2.val c0
  replace c1 := g2.val c1
  replace c2 := g2.val c2
  replace cn := g2.val cn
  have G2 := hid (G1.out.trans g2)
  replace lc := cell_lt c0
  replace ln := cell_lt cn
  simp only at lc ln
  have HLN2 := hid ln
  clear g2 G1
  go_wp2_with (fail)
  refine (HPR.out _ G2.out).mono ?_
  rintro e w3 ⟨v, bp, bs, rfl, own, hab, g3⟩
  dsimp only
  replace cn := g3.val cn
  replace ln := cell_lt cn
  simp only at ln
  have lw3 := g3.size
  have G3 := hid (G2.out.trans g3)
  have P1 := hid (prog1 HL2.out.2 HL2.out.1 hab (fun B hB => (own.p B hB).2))
  clear c0 c1 c2 lc hab HLI HPR HA g3
  obtain ⟨init, B, rfl⟩ : ∃ init B, bs = init ++ [B] := by
    rcases List.eq_nil_or_concat bs with h | ⟨i, b, h⟩
    · have := P1.out.n; rw [h] at this; have := len_in s HL2.out.2; simp at *; omega
    · exact ⟨i, b, by simpa using h⟩
  obtain ⟨m, hm0⟩ : ∃ m, init.length = m := ⟨_, rfl⟩
  have HM := hid hm0
  have hlen : (init ++ [B]).length = m + 1 := by simp [hm0]
  have hm8 : m ≤ 7 := by have := P1.out.n; have := len_in s HL2.out.2; omega
  have OB := hid own.b
  obtain ⟨b, off, c, hv⟩ := own.b.ptr (by omega)
  rw [hlen] at hv
  subst hv
  have OWN := hid own
  obtain ⟨ia, ic, hiv⟩ := (own.i B (by simp)).shape
  have hpv := (own.p B (by simp)).1
  obtain ⟨b0, b1, b2, b3, b4, b5, b6⟩ := blk_at own.b m (x := B) (by rw [← hm0]; simp)
  rw [hpv] at b1
  rw [hiv] at b2
  have HIV := hid hiv
  have HPV := hid hpv
  have fzb := own.b.cell.2.2.1
  have lb := own.b.cell.2.2.2
  clear own hm0 hiv hpv
  have hix : IntKind.i64.wrap ((m + 1 : Nat) - 1 : Int) = (m : Int) := by rw [IntKind.wrap_i64]; omega
  rw [hlen] at OB
  clear hlen
  have gq : Gr w3 ((w3.alloc (.cells #[(.slice (some ⟨b, off, none⟩) (m + 1) c)] 52)).alloc (.cells #[.pointer (some ⟨b, off + m * 7, none⟩)] 70)) := ((Gr.refl w3).alloc _).alloc _
  have cnq := gq.val cn
  have HO := out_any 0 99999 n nb ((w3.alloc (.cells #[(.slice (some ⟨b, off, none⟩) (m + 1) c)] 52)).alloc (.cells #[.pointer (some ⟨b, off + m * 7, none⟩)] 70)) cnq
  rw [show outE n 0 99999 = 2 by unfold outE; rw [if_pos hx]] at HO
  have HOh := hid HO
  have GQ := hid gq
  have HX := hid hx
  clear HO gq cnq hx
  go_wp2_with (fail)
  refine HOh.out.mono ?_
  rintro e W6 ⟨rfl, g6⟩
  dsimp only
  have gw6 : Gr w3 W6 := GQ.out.trans g6
  have cn6 := gw6.val cn
  have cq6 : W6.cell? ⟨w3.heap.size + 1, 0, none⟩ = some (.pointer (some ⟨b, off + m * 7, none⟩)) := by have := g6.boxed 0 (u := .pointer (some ⟨b, off + m * 7, none⟩)) rfl; simpa only [World.size_alloc] using this
  have cp6 : W6.cell? ⟨w3.heap.size, 0, none⟩ = some (.slice (some ⟨b, off, none⟩) (m + 1) c) := (((Gr.refl _).alloc _).trans g6).boxed 0 rfl
  have b06 := gw6.val b0
  have fz6 : ∀ j, W6.frozen? ⟨b, j, none⟩ = false := fun j => (gw6.frozen (p := ⟨b, j, none⟩) lb).trans (fzb j)
  have lb6 := Nat.lt_of_lt_of_le lb gw6.size
  have ln6 := cell_lt cn6
  have lq6 := cell_lt cq6
  have lp6 := cell_lt cp6
  simp only at ln6 lq6 lp6
  have hbp6 : ¬ b = w3.heap.size := by omega
  have hbq6 : ¬ b = w3.heap.size + 1 := by omega
  have GW6 := hid gw6
  clear gw6 g6 b0 b1 b2 b3 b4 b5 b6 cn GQ HOh
  go_wp2_with (fail)
  have hwb : w.heap.size ≤ b := Nat.le_trans G2.out.size (OWN.out.o b (by simp [blks])).1
  have TT : Tch [b] w3 (W6.setCell ⟨b, off + m * 7 + 0, none⟩ (.int .i64 n)) := (GW6.out.tch.mono (by simp)).setCell (.inl (by simp)) _
  have GG : Gr w (W6.setCell ⟨b, off + m * 7 + 0, none⟩ (.int .i64 n)) := (G3.out.trans GW6.out).setCell hwb _
  have SS : Sl (W6.setCell ⟨b, off + m * 7 + 0, none⟩ (.int .i64 n)) 60 7 (.slice (some ⟨b, off, none⟩) (m + 1) c) (m + 1) (blkC (init ++ [{ B with lab := n }])) := sl_last (B' := { B with lab := n }) HM.out (OB.out.gr GW6.out) 0 (by omega) (.int .i64 n) rfl
  have hln : (init ++ [{ B with lab := n }]).length = m + 1 := by rw [List.length_append, HM.out]; rfl
  have hgo := P1.out.g B (by simp)
  have hph := P1.out.p B (by simp)
  have PP := own_prog (B' := { B with lab := n }) OWN.out TT (by simp [blks]) (by rw [hln]; exact SS) ⟨by show Sl _ 57 3 B.pv B.phis.length (phiC B.phis); rw [HPV.out, hph]; exact Sl.nil _ _ _, fun y hy => by have hy2 : y ∈ B.phis := hy; rw [hph] at hy2; simp at hy2, own_ins (B := B) (v := (.slice (some ⟨b, off, none⟩) (m + 1) c)) OWN.out TT (by simp [blks])⟩
  have hcl := check_lab HL2.out.2 P1.out (n := n) (by have := HX.out; omega)
  have CK := check_any (.slice (some ⟨b, off, none⟩) (m + 1) c) _ _ (HK.out.gr GG) PP (wf_last P1.out ⟨wfI_mk n0 n1, hgo.y, hgo.n, fun q hq => by have hq2 : q ∈ B.phis := hq; rw [hph] at hq2; simp at hq2, fun q hq => (hgo.i q hq).2⟩) hcl.2
  rw [hcl.1] at CK
  refine CK.mono ?_
  rintro e w9 ⟨rfl, g9⟩
  go_wp2_with (fail)
  go_ret
  exact ⟨rfl, GG.trans g9⟩
set_option maxRecDepth 100000 in
set_option maxHeartbeats 2000000 in
theorem checks_3 (s : SmlM) (what n : Int) (w : World) (hk : Kinds w) (hs : SmlOk w s) (h0 : 0 ≤ what) (h1 : what ≤ 255) (n0 : -9223372036854775808 ≤ n) (n1 : n ≤ 9223372036854775807) (hl : lightB s = true) (h14 : what % 14 = 3) :
    Calls Tryd.prog 6 #[.agg #[.int .u8 s.r, .bool s.bare, s.bv], .int .u8 what, .int .i64 n] w fun e w' => e = .returned (.bool true) ∧ Gr w w' := by
  have hl2 : (∀ b ∈ s.bs, b.ls.length ≤ 10) ∧ s.bs.length ≤ 8 := by simpa [lightB] using hl
  have HL2 := hid hl2
  have HK := hid hk
  have HA := hid (fun W (g : Gr w W) => awake W (hk.gr g))
  have HLI := hid (fun W (g : Gr w W) => light_any s W (hs.gr g))
  have HPR := hid (fun W (g : Gr w W) => program_any s W (hk.gr g) (hs.gr g) hl)
  rw [hl] at HLI
  obtain ⟨va, vc, hbv, _⟩ := hs.b.shape
  rw [hbv] at HLI HPR ⊢
  have tm : what.tmod 14 = 3 := by rw [Int.tmod_eq_emod_of_nonneg h0]; exact h14
  clear hl2 hl hk hs hbv h14 h0 h1
  generalize s.r = r at HLI HPR ⊢
  generalize s.bare = bare at HLI HPR ⊢
  have hm : Tryd.prog.follows .mixedOrders = true := by kernel_rfl
  go_enter Tryd.func6, Tryd.ntmps6
  go_wp2_with (fail)
  refine (HA.out _ (((Gr.refl w).alloc _).alloc _)).mono ?_
  rintro e w1 ⟨rfl, g1⟩
  dsimp only
  have c0 := (((Gr.refl _).alloc _).trans g1).boxed 0 (u := .int .u8 r) rfl
  have c1 := (((Gr.refl _).alloc _).trans g1).boxed 1 (u := .bool bare) rfl
  have c2 := (((Gr.refl _).alloc _).trans g1).boxed 2 (u := .slice va s.bs.length vc) rfl
  have cn := g1.boxed 0 (u := .int .i64 n) rfl
  simp only [World.size_alloc] at cn
  have G1 := hid ((((Gr.refl w).alloc _).alloc _).trans g1)
  have lc := cell_lt c0
  have ln := cell_lt cn
  simp only at lc ln
  clear g1
  generalize w.heap.size + 1 = nb at cn ln ⊢
  go_wp2_with (fail)
  refine (HLI.out _ G1.out).mono ?_
  rintro e w2 ⟨rfl, g2⟩
  dsimp only
  replace c0 := g2.val c0
  replace c1 := g2.val c1
  replace c2 := g2.val c2
  replace cn := g2.val cn
  have G2 := hid (G1.out.trans g2)
  replace lc := cell_lt c0
  replace ln := cell_lt cn
  simp only at lc ln
  have HLN2 := hid ln
  clear g2 G1
  go_wp2_with (fail)
  refine (HPR.out _ G2.out).mono ?_
  rintro e w3 ⟨v, bp, bs, rfl, own, hab, g3⟩
  dsimp only
  replace cn := g3.val cn
  replace ln := cell_lt cn
  simp only at ln
  have lw3 := g3.size
  have G3 := hid (G2.out.trans g3)
  have P1 := hid (prog1 HL2.out.2 HL2.out.1 hab (fun B hB => (own.p B hB).2))
  clear c0 c1 c2 lc hab HLI HPR HA g3
  obtain ⟨init, B, rfl⟩ : ∃ init B, bs = init ++ [B] := by
    rcases List.eq_nil_or_concat bs with h | ⟨i, b, h⟩
    · have := P1.out.n; rw [h] at this; have := len_in s HL2.out.2; simp at *; omega
    · exact ⟨i, b, by simpa using h⟩
  obtain ⟨m, hm0⟩ : ∃ m, init.length = m := ⟨_, rfl⟩
  have HM := hid hm0
  have hlen : (init ++ [B]).length = m + 1 := by simp [hm0]
  have hm8 : m ≤ 7 := by have := P1.out.n; have := len_in s HL2.out.2; omega
  have OB := hid own.b
  obtain ⟨b, off, c, hv⟩ := own.b.ptr (by omega)
  rw [hlen] at hv
  subst hv
  have OWN := hid own
  obtain ⟨ia, ic, hiv⟩ := (own.i B (by simp)).shape
  have hpv := (own.p B (by simp)).1
  obtain ⟨b0, b1, b2, b3, b4, b5, b6⟩ := blk_at own.b m (x := B) (by rw [← hm0]; simp)
  rw [hpv] at b1
  rw [hiv] at b2
  have HIV := hid hiv
  have HPV := hid hpv
  have fzb := own.b.cell.2.2.1
  have lb := own.b.cell.2.2.2
  clear own hm0 hiv hpv
  have hix : IntKind.i64.wrap ((m + 1 : Nat) - 1 : Int) = (m : Int) := by rw [IntKind.wrap_i64]; omega
  rw [hlen] at OB
  clear hlen
  go_wp2_with (fail)
  refine wp_region_noPanic ?_
  have gW : Gr w3 ((w3.alloc (.cells #[(.slice (some ⟨b, off, none⟩) (m + 1) c)] 52)).alloc (.cells #[.pointer (some ⟨b, off + m * 7, none⟩)] 70)).drew := (((Gr.refl w3).alloc _).alloc _).drew
  have cqq : ((w3.alloc (.cells #[(.slice (some ⟨b, off, none⟩) (m + 1) c)] 52)).alloc (.cells #[.pointer (some ⟨b, off + m * 7, none⟩)] 70)).drew.cell? ⟨w3.heap.size + 1, 0, none⟩ = some (.pointer (some ⟨b, off + m * 7, none⟩)) := by have := ((Gr.refl ((w3.alloc (.cells #[(.slice (some ⟨b, off, none⟩) (m + 1) c)] 52)).alloc (.cells #[.pointer (some ⟨b, off + m * 7, none⟩)] 70))).drew).boxed 0 (u := .pointer (some ⟨b, off + m * 7, none⟩)) rfl; simpa only [World.size_alloc] using this
  have cp : ((w3.alloc (.cells #[(.slice (some ⟨b, off, none⟩) (m + 1) c)] 52)).alloc (.cells #[.pointer (some ⟨b, off + m * 7, none⟩)] 70)).drew.cell? ⟨w3.heap.size, 0, none⟩ = some (.slice (some ⟨b, off, none⟩) (m + 1) c) := (((Gr.refl _).alloc _).drew).boxed 0 rfl
  have obp : ((w3.alloc (.cells #[(.slice (some ⟨b, off, none⟩) (m + 1) c)] 52)).alloc (.cells #[.pointer (some ⟨b, off + m * 7, none⟩)] 70)).drew.heap[w3.heap.size]? = some (.cells #[(.slice (some ⟨b, off, none⟩) (m + 1) c)] 52 (0, 0)) := (((Gr.refl _).alloc _).drew).obj (heap_alloc_new w3 _)
  have wz0 := gW.val b0
  have wz1 := gW.val b1
  have wz2 := gW.val b2
  have wz3 := gW.val b3
  have wz4 := gW.val b4
  have wz5 := gW.val b5
  have wz6 := gW.val b6
  have fz1 : ∀ j, ((w3.alloc (.cells #[(.slice (some ⟨b, off, none⟩) (m + 1) c)] 52)).alloc (.cells #[.pointer (some ⟨b, off + m * 7, none⟩)] 70)).drew.frozen? ⟨b, j, none⟩ = false := fun j => (gW.frozen (p := ⟨b, j, none⟩) lb).trans (fzb j)
  have lb1 := Nat.lt_of_lt_of_le lb gW.size
  have hbq : ¬ b = w3.heap.size + 1 := by omega
  have hbp : ¬ b = w3.heap.size := by omega
  have GW := hid gW
  have lq1 := cell_lt cqq
  have lp1 := cell_lt cp
  simp only at lq1 lp1
  have OBP := hid obp
  clear obp b0 b1 b2 b3 b4 b5 b6 fzb gW
  refine wp_region_held_drew (S := fun w' => w'.cell? ⟨w3.heap.size + 1, 0, none⟩ = some (.pointer (some ⟨b, off + m * 7, none⟩))) hm cqq (fun hHeld => ?_)
  generalize ((w3.alloc (.cells #[(.slice (some ⟨b, off, none⟩) (m + 1) c)] 52)).alloc (.cells #[.pointer (some ⟨b, off + m * 7, none⟩)] 70)).drew = W1 at *
  refine wpAnyH_take (i := 0) (oi := { dst := some 67, op := Go.Op.fieldAddr 52 (Go.Operand.tmp 7) 0, type := 0, pos := "law.go:237", after := #[], guard := none }) (v := ?_) rfl (by kernel_rfl) (by kernel_rfl) (by kernel_rfl) (fun _ _ _ h => h) (Or.inl ⟨by rfl, ?_⟩) (by assumption) ?_
  rotate_left
  (intro w hSw; (try dsimp only at hSw); go_simp; try (with_reducible rfl))
  simp only [Act.put, List.setIfInBounds_toArray, List.set_cons_zero, List.set_cons_succ]
  refine wpAnyH_take (i := 2) (oi := { dst := some 69, op := Go.Op.load 70 (Go.Operand.tmp 8), type := 70, pos := "law.go:237", after := #[], guard := none }) (v := ?_) rfl (by kernel_rfl) (by kernel_rfl) (by kernel_rfl) (fun _ _ _ h => h) (Or.inl ⟨by rfl, ?_⟩) (by assumption) ?_
  rotate_left
  (intro w hSw; (try dsimp only at hSw); go_simp; try (with_reducible rfl))
  simp only [Act.put, List.setIfInBounds_toArray, List.set_cons_zero, List.set_cons_succ]
  refine wpAnyH_take (i := 3) (oi := { dst := some 70, op := Go.Op.nilCheck (Go.Operand.tmp 69), type := 0, pos := "law.go:237", after := #[{ on := 2, ground := Go.Ground.data }], guard := none }) (v := ?_) rfl (by kernel_rfl) (by kernel_rfl) (by kernel_rfl) (fun _ _ _ h => h) (Or.inl ⟨by rfl, ?_⟩) (by assumption) ?_
  rotate_left
  (intro w hSw; (try dsimp only at hSw); go_simp; try (with_reducible rfl))
  simp only [Act.put, List.setIfInBounds_toArray, List.set_cons_zero, List.set_cons_succ]
  refine wpAnyH_ready (rs := [1, 4]) (by kernel_rfl) (by simp) (AllReadyH.cons (o := { dst := some 68, op := Go.Op.load 50 (Go.Operand.tmp 67), type := 50, pos := "law.go:237", after := #[{ on := 0, ground := Go.Ground.data }], guard := none }) rfl (fun K hK => ?_) (AllReadyH.cons (o := { dst := some 71, op := Go.Op.load 60 (Go.Operand.tmp 70), type := 60, pos := "law.go:237", after := #[{ on := 3, ground := Go.Ground.data }], guard := none }) rfl (fun K hK => ?_) AllReadyH.nil))
  · have cpw := cp
    have lpw := cell_lt cp
    simp only at lpw
    go_simp
    refine hK.out _ _ (by assumption) (fun hH2 => ?_)
    clear hHeld hK K
    have hHeld := hH2
    clear hH2
    try simp only [Act.put, List.setIfInBounds_toArray, List.set_cons_zero, List.set_cons_succ]
    clear cpw lpw
    refine wpAnyH_ready (rs := [4]) (by kernel_rfl) (by simp) (AllReadyH.cons (o := { dst := some 71, op := Go.Op.load 60 (Go.Operand.tmp 70), type := 60, pos := "law.go:237", after := #[{ on := 3, ground := Go.Ground.data }], guard := none }) rfl (fun K hK => ?_) AllReadyH.nil)
    have lbw := cell_lt wz0
    simp only at lbw
    go_simp
    refine hK.out _ _ (by assumption) (fun hH2 => ?_)
    clear hHeld hK K
    have hHeld := hH2
    clear hH2
    try simp only [Act.put, List.setIfInBounds_toArray, List.set_cons_zero, List.set_cons_succ]
    clear lbw
    refine wpAnyH_ready (rs := [5]) (by kernel_rfl) (by simp) (AllReadyH.cons (o := { dst := some 72, op := Go.Op.buildSlice 50 1 #[(0, Go.Operand.tmp 71)], type := 50, pos := "law.go:237", after := #[{ on := 4, ground := Go.Ground.data }], guard := none }) rfl (fun K hK => ?_) AllReadyH.nil)
    go_simp
    refine hK.out _ _ (((Gr.refl _).alloc _).val (by assumption)) (fun hH2 => ?_)
    clear hHeld hK K
    have hHeld := hH2
    clear hH2
    try simp only [Act.put, List.setIfInBounds_toArray, List.set_cons_zero, List.set_cons_succ]
    have gA : Gr W1 (W1.alloc (.cells #[.int .i64 B.lab, .slice none 0 0, .slice ia B.ins.length ic, .int .u8 B.e, .int .i64 B.a, .int .i64 B.y, .int .i64 B.n] 60)) := (Gr.refl W1).alloc _
    have CN := hid (cells_new W1 W1.heap.size rfl B.cells 60)
    rw [show B.cells = [.int .i64 B.lab, .slice none 0 0, .slice ia B.ins.length ic, .int .u8 B.e, .int .i64 B.a, .int .i64 B.y, .int .i64 B.n] by unfold BlkM.cells; rw [HPV.out, HIV.out]] at CN
    replace cp := gA.val cp
    have GA := hid gA
    have OBA := hid (OBP.out)
    clear gA wz0 wz1 wz2 wz3 wz4 wz5 wz6 fz1
    refine wpAnyH_ready (rs := [6]) (by kernel_rfl) (by simp) (AllReadyH.cons (o := { dst := some 73, op := Go.Op.call { callee := Go.Callee.builtin Go.Builtin.append, args := #[Go.Operand.tmp 68, Go.Operand.tmp 72], argTypes := #[50, 50] }, type := 50, pos := "law.go:237", after := #[{ on := 1, ground := Go.Ground.data }, { on := 5, ground := Go.Ground.data }], guard := none }) rfl (fun K hK => ?_) AllReadyH.nil)
    refine step_append_t rfl _ _ 50 rfl Tryd.underlying50 info_blk rfl (by decide) (.slice (some ⟨b, off, none⟩) (m + 1) c) rfl (OB.out.gr (GW.out.trans GA.out)) ⟨_, 0, none⟩ 1 1 rfl [.int .i64 B.lab, .slice none 0 0, .slice ia B.ins.length ic, .int .u8 B.e, .int .i64 B.a, .int .i64 B.y, .int .i64 B.n] rfl CN.out (by simp [Value.oneCell']) (by omega) ?_
    intro v' w5 hs' ht hd hb
    obtain ⟨va', vc', rfl⟩ := hs'.shape
    refine hK.out _ _ (tch_val ht (by assumption) (by simp [blks]; omega)) (fun hH2 => ?_)
    clear hHeld hK K
    have hHeld := hH2
    clear hH2
    try simp only [Act.put, List.setIfInBounds_toArray, List.set_cons_zero, List.set_cons_succ]
    have cp5 := tch_val ht cp (by simp [blks]; omega)
    have fz5 : w5.frozen? ⟨w3.heap.size, 0, none⟩ = false := (tch_frozen ht (p := ⟨w3.heap.size, 0, none⟩) (by have := GA.out.size; simp only; omega) (by simp [blks]; omega)).trans ((GA.out.frozen (p := ⟨w3.heap.size, 0, none⟩) (by simp only; omega)).trans (frozen_of_row _ _ _ _ _ OBP.out))
    have HS5 := hid hs'
    have HT5 := hid ht
    have HD5 := hid hd
    have HB5 := hid hb
    have l5 := cell_lt cp5
    simp only at l5
    clear hs' ht hd hb cp
    refine wpAnyH_take (i := 7) (oi := { dst := some 74, op := Go.Op.fieldAddr 52 (Go.Operand.tmp 7) 0, type := 0, pos := "law.go:237", after := #[{ on := 0, ground := Go.Ground.phase }, { on := 1, ground := Go.Ground.phase }, { on := 2, ground := Go.Ground.phase }, { on := 3, ground := Go.Ground.phase }, { on := 4, ground := Go.Ground.phase }, { on := 5, ground := Go.Ground.phase }, { on := 6, ground := Go.Ground.phase }], guard := none }) (v := ?_) rfl (by kernel_rfl) (by kernel_rfl) (by kernel_rfl) (fun _ _ _ h => h) (Or.inl ⟨by rfl, ?_⟩) (by assumption) ?_
    rotate_left
    (intro w hSw; (try dsimp only at hSw); go_simp; try (with_reducible rfl))
    simp only [Act.put, List.setIfInBounds_toArray, List.set_cons_zero, List.set_cons_succ]
    refine wpAnyH_ready (rs := [8]) (by kernel_rfl) (by simp) (AllReadyH.cons (o := { dst := none, op := Go.Op.store 50 (Go.Operand.tmp 74) (Go.Operand.tmp 73), type := 0, pos := "law.go:237", after := #[{ on := 7, ground := Go.Ground.data }, { on := 6, ground := Go.Ground.data }, { on := 6, ground := Go.Ground.chain }, { on := 0, ground := Go.Ground.phase }, { on := 1, ground := Go.Ground.phase }, { on := 2, ground := Go.Ground.phase }, { on := 3, ground := Go.Ground.phase }, { on := 4, ground := Go.Ground.phase }, { on := 5, ground := Go.Ground.phase }, { on := 6, ground := Go.Ground.phase }], guard := none }) rfl (fun K hK => ?_) AllReadyH.nil)
    go_simp
    refine hK.out _ _ ((World.cell?_setCell_far w5 ⟨w3.heap.size, 0, none⟩ ⟨w3.heap.size + 1, 0, none⟩ _ (by simp)).trans (by assumption)) (fun hH2 => ?_)
    clear hHeld hK K
    have hHeld := hH2
    clear hH2
    try simp only [Act.put, List.setIfInBounds_toArray, List.set_cons_zero, List.set_cons_succ]
    refine wpAnyH_take (i := 9) (oi := { dst := some 10, op := Go.Op.assign (Go.Operand.const (Go.Value.int Go.IntKind.i64 8)), type := 54, pos := "law.go:237", after := #[{ on := 8, ground := Go.Ground.chain }, { on := 0, ground := Go.Ground.phase }, { on := 1, ground := Go.Ground.phase }, { on := 2, ground := Go.Ground.phase }, { on := 3, ground := Go.Ground.phase }, { on := 4, ground := Go.Ground.phase }, { on := 5, ground := Go.Ground.phase }, { on := 6, ground := Go.Ground.phase }, { on := 7, ground := Go.Ground.phase }, { on := 8, ground := Go.Ground.phase }], guard := none }) (v := ?_) rfl (by kernel_rfl) (by kernel_rfl) (by kernel_rfl) (fun _ _ _ h => h) (Or.inl ⟨by rfl, ?_⟩) (by assumption) ?_
    rotate_left
    (intro w hSw; (try dsimp only at hSw); go_simp; try (with_reducible rfl))
    simp only [Act.put, List.setIfInBounds_toArray, List.set_cons_zero, List.set_cons_succ]
    refine wpAnyH_done (by kernel_rfl) (NoPanic.normal ?_) _
    go_simp
    have hwb : w.heap.size ≤ b := Nat.le_trans G2.out.size (OWN.out.o b (by simp [blks])).1
    have T5 : Tch [b] w3 w5 := ((GW.out.trans GA.out).tch.mono (by simp)).trans (HT5.out.mono (by simp [blks]))
    have TT : Tch [b, w3.heap.size] w3 (w5.setCell ⟨w3.heap.size, 0, none⟩ (.slice va' (m + 1 + 1) vc')) := (T5.mono (by simp)).setCell (.inl (by simp)) _
    have GG : Gr w (w5.setCell ⟨w3.heap.size, 0, none⟩ (.slice va' (m + 1 + 1) vc')) := (gr_tch (G3.out.trans (GW.out.trans GA.out)) HT5.out HD5.out (fun z hz => by simp [blks] at hz; omega)).setCell (by have := G3.out.size; simp only; omega) _
    have hnew : ¬ w3.heap.size ∈ blks (.slice va' (m + 1 + 1) vc') := fun hm => by
      rcases HB5.out _ hm with h | h
      · simp [blks] at h; omega
      · have := GA.out.size; simp at h; omega
    have SS : Sl (w5.setCell ⟨w3.heap.size, 0, none⟩ (.slice va' (m + 1 + 1) vc')) 60 7 (.slice va' (m + 1 + 1) vc') (m + 1 + 1) (blkC (init ++ [B] ++ [B])) := by
      rw [blkC_snoc (init ++ [B]) B]
      have h := HS5.out.kept (S := [w3.heap.size]) ((Tch.refl _ w5).setCell (p := ⟨w3.heap.size, 0, none⟩) (.inl (by simp)) (.slice va' (m + 1 + 1) vc')) (fun x hx hm => by simp at hm; subst hm; exact hnew hx)
      rw [show B.cells = [.int .i64 B.lab, .slice none 0 0, .slice ia B.ins.length ic, .int .u8 B.e, .int .i64 B.a, .int .i64 B.y, .int .i64 B.n] by unfold BlkM.cells; rw [HPV.out, HIV.out]]
      exact h
    have cp2 : (w5.setCell ⟨w3.heap.size, 0, none⟩ (.slice va' (m + 1 + 1) vc')).cell? ⟨w3.heap.size, 0, none⟩ = some (.slice va' (m + 1 + 1) vc') := World.cell?_setCell_same _ _ _ cp5
    have hln : (init ++ [B] ++ [B]).length = m + 1 + 1 := by simp [HM.out]
    have PP : ProgOk (w5.setCell ⟨w3.heap.size, 0, none⟩ (.slice va' (m + 1 + 1) vc')) (.slice va' (m + 1 + 1) vc') (init ++ [B] ++ [B]) := ⟨by rw [hln]; exact SS, fun y hy => by
      have hm : y ∈ init ++ [B] := by
        rcases List.mem_append.1 hy with h | h
        · exact h
        · simp at h; subst h; simp
      have hp := OWN.out.p y hm
      exact ⟨by rw [hp.1, hp.2]; exact Sl.nil _ _ _, fun z hz => by rw [hp.2] at hz; simp at hz, (OWN.out.i y hm).kept TT (fun x hx hx2 => by
        have h1 := (OWN.out.q y hm x hx).2.2
        have h2 := (OWN.out.i y hm).lt x hx
        simp [blks] at h1 hx2
        rcases hx2 with h | h
        · exact h1 h
        · omega)⟩⟩
    have hcl := check_twice (C := B) HL2.out.2 P1.out (by rw [← P1.out.l]; unfold labsOf; simp) (P1.out.size B (by simp))
    have WF : ∀ x ∈ init ++ [B] ++ [B], BlkWf x := fun x hx => P1.out.wf x (by
      rcases List.mem_append.1 hx with h | h
      · exact h
      · simp at h; subst h; simp)
    have CKh := hid (check_any _ _ (w5.setCell ⟨w3.heap.size, 0, none⟩ (.slice va' (m + 1 + 1) vc')) (HK.out.gr GG) PP WF hcl.2)
    rw [hcl.1] at CKh
    have GGh := hid GG
    have l2 := cell_lt cp2
    simp only at l2
    clear hwb T5 TT GG hnew SS hln PP hcl WF OWN OB HS5 HT5 HB5 HD5 cp5 fz5
    generalize (w5.setCell ⟨w3.heap.size, 0, none⟩ (.slice va' (m + 1 + 1) vc')) = W2 at *
    go_wp2_with (fail)
    refine CKh.out.mono ?_
    rintro e w9 ⟨rfl, g9⟩
    go_wp2_with (fail)
    go_ret
    exact ⟨rfl, GGh.out.trans g9⟩
  · have lbw := cell_lt wz0
    simp only at lbw
    go_simp
    refine hK.out _ _ (by assumption) (fun hH2 => ?_)
    clear hHeld hK K
    have hHeld := hH2
    clear hH2
    try simp only [Act.put, List.setIfInBounds_toArray, List.set_cons_zero, List.set_cons_succ]
    clear lbw
    refine wpAnyH_ready (rs := [1, 5]) (by kernel_rfl) (by simp) (AllReadyH.cons (o := { dst := some 68, op := Go.Op.load 50 (Go.Operand.tmp 67), type := 50, pos := "law.go:237", after := #[{ on := 0, ground := Go.Ground.data }], guard := none }) rfl (fun K hK => ?_) (AllReadyH.cons (o := { dst := some 72, op := Go.Op.buildSlice 50 1 #[(0, Go.Operand.tmp 71)], type := 50, pos := "law.go:237", after := #[{ on := 4, ground := Go.Ground.data }], guard := none }) rfl (fun K hK => ?_) AllReadyH.nil))
    · have cpw := cp
      have lpw := cell_lt cp
      simp only at lpw
      go_simp
      refine hK.out _ _ (by assumption) (fun hH2 => ?_)
      clear hHeld hK K
      have hHeld := hH2
      clear hH2
      try simp only [Act.put, List.setIfInBounds_toArray, List.set_cons_zero, List.set_cons_succ]
      clear cpw lpw
      refine wpAnyH_ready (rs := [5]) (by kernel_rfl) (by simp) (AllReadyH.cons (o := { dst := some 72, op := Go.Op.buildSlice 50 1 #[(0, Go.Operand.tmp 71)], type := 50, pos := "law.go:237", after := #[{ on := 4, ground := Go.Ground.data }], guard := none }) rfl (fun K hK => ?_) AllReadyH.nil)
      go_simp
      refine hK.out _ _ (((Gr.refl _).alloc _).val (by assumption)) (fun hH2 => ?_)
      clear hHeld hK K
      have hHeld := hH2
      clear hH2
      try simp only [Act.put, List.setIfInBounds_toArray, List.set_cons_zero, List.set_cons_succ]
      have gA : Gr W1 (W1.alloc (.cells #[.int .i64 B.lab, .slice none 0 0, .slice ia B.ins.length ic, .int .u8 B.e, .int .i64 B.a, .int .i64 B.y, .int .i64 B.n] 60)) := (Gr.refl W1).alloc _
      have CN := hid (cells_new W1 W1.heap.size rfl B.cells 60)
      rw [show B.cells = [.int .i64 B.lab, .slice none 0 0, .slice ia B.ins.length ic, .int .u8 B.e, .int .i64 B.a, .int .i64 B.y, .int .i64 B.n] by unfold BlkM.cells; rw [HPV.out, HIV.out]] at CN
      replace cp := gA.val cp
      have GA := hid gA
      have OBA := hid (OBP.out)
      clear gA wz0 wz1 wz2 wz3 wz4 wz5 wz6 fz1
      refine wpAnyH_ready (rs := [6]) (by kernel_rfl) (by simp) (AllReadyH.cons (o := { dst := some 73, op := Go.Op.call { callee := Go.Callee.builtin Go.Builtin.append, args := #[Go.Operand.tmp 68, Go.Operand.tmp 72], argTypes := #[50, 50] }, type := 50, pos := "law.go:237", after := #[{ on := 1, ground := Go.Ground.data }, { on := 5, ground := Go.Ground.data }], guard := none }) rfl (fun K hK => ?_) AllReadyH.nil)
      refine step_append_t rfl _ _ 50 rfl Tryd.underlying50 info_blk rfl (by decide) (.slice (some ⟨b, off, none⟩) (m + 1) c) rfl (OB.out.gr (GW.out.trans GA.out)) ⟨_, 0, none⟩ 1 1 rfl [.int .i64 B.lab, .slice none 0 0, .slice ia B.ins.length ic, .int .u8 B.e, .int .i64 B.a, .int .i64 B.y, .int .i64 B.n] rfl CN.out (by simp [Value.oneCell']) (by omega) ?_
      intro v' w5 hs' ht hd hb
      obtain ⟨va', vc', rfl⟩ := hs'.shape
      refine hK.out _ _ (tch_val ht (by assumption) (by simp [blks]; omega)) (fun hH2 => ?_)
      clear hHeld hK K
      have hHeld := hH2
      clear hH2
      try simp only [Act.put, List.setIfInBounds_toArray, List.set_cons_zero, List.set_cons_succ]
      have cp5 := tch_val ht cp (by simp [blks]; omega)
      have fz5 : w5.frozen? ⟨w3.heap.size, 0, none⟩ = false := (tch_frozen ht (p := ⟨w3.heap.size, 0, none⟩) (by have := GA.out.size; simp only; omega) (by simp [blks]; omega)).trans ((GA.out.frozen (p := ⟨w3.heap.size, 0, none⟩) (by simp only; omega)).trans (frozen_of_row _ _ _ _ _ OBP.out))
      have HS5 := hid hs'
      have HT5 := hid ht
      have HD5 := hid hd
      have HB5 := hid hb
      have l5 := cell_lt cp5
      simp only at l5
      clear hs' ht hd hb cp
      refine wpAnyH_take (i := 7) (oi := { dst := some 74, op := Go.Op.fieldAddr 52 (Go.Operand.tmp 7) 0, type := 0, pos := "law.go:237", after := #[{ on := 0, ground := Go.Ground.phase }, { on := 1, ground := Go.Ground.phase }, { on := 2, ground := Go.Ground.phase }, { on := 3, ground := Go.Ground.phase }, { on := 4, ground := Go.Ground.phase }, { on := 5, ground := Go.Ground.phase }, { on := 6, ground := Go.Ground.phase }], guard := none }) (v := ?_) rfl (by kernel_rfl) (by kernel_rfl) (by kernel_rfl) (fun _ _ _ h => h) (Or.inl ⟨by rfl, ?_⟩) (by assumption) ?_
      rotate_left
      (intro w hSw; (try dsimp only at hSw); go_simp; try (with_reducible rfl))
      simp only [Act.put, List.setIfInBounds_toArray, List.set_cons_zero, List.set_cons_succ]
      refine wpAnyH_ready (rs := [8]) (by kernel_rfl) (by simp) (AllReadyH.cons (o := { dst := none, op := Go.Op.store 50 (Go.Operand.tmp 74) (Go.Operand.tmp 73), type := 0, pos := "law.go:237", after := #[{ on := 7, ground := Go.Ground.data }, { on := 6, ground := Go.Ground.data }, { on := 6, ground := Go.Ground.chain }, { on := 0, ground := Go.Ground.phase }, { on := 1, ground := Go.Ground.phase }, { on := 2, ground := Go.Ground.phase }, { on := 3, ground := Go.Ground.phase }, { on := 4, ground := Go.Ground.phase }, { on := 5, ground := Go.Ground.phase }, { on := 6, ground := Go.Ground.phase }], guard := none }) rfl (fun K hK => ?_) AllReadyH.nil)
      go_simp
      refine hK.out _ _ ((World.cell?_setCell_far w5 ⟨w3.heap.size, 0, none⟩ ⟨w3.heap.size + 1, 0, none⟩ _ (by simp)).trans (by assumption)) (fun hH2 => ?_)
      clear hHeld hK K
      have hHeld := hH2
      clear hH2
      try simp only [Act.put, List.setIfInBounds_toArray, List.set_cons_zero, List.set_cons_succ]
      refine wpAnyH_take (i := 9) (oi := { dst := some 10, op := Go.Op.assign (Go.Operand.const (Go.Value.int Go.IntKind.i64 8)), type := 54, pos := "law.go:237", after := #[{ on := 8, ground := Go.Ground.chain }, { on := 0, ground := Go.Ground.phase }, { on := 1, ground := Go.Ground.phase }, { on := 2, ground := Go.Ground.phase }, { on := 3, ground := Go.Ground.phase }, { on := 4, ground := Go.Ground.phase }, { on := 5, ground := Go.Ground.phase }, { on := 6, ground := Go.Ground.phase }, { on := 7, ground := Go.Ground.phase }, { on := 8, ground := Go.Ground.phase }], guard := none }) (v := ?_) rfl (by kernel_rfl) (by kernel_rfl) (by kernel_rfl) (fun _ _ _ h => h) (Or.inl ⟨by rfl, ?_⟩) (by assumption) ?_
      rotate_left
      (intro w hSw; (try dsimp only at hSw); go_simp; try (with_reducible rfl))
      simp only [Act.put, List.setIfInBounds_toArray, List.set_cons_zero, List.set_cons_succ]
      refine wpAnyH_done (by kernel_rfl) (NoPanic.normal ?_) _
      go_simp
      have hwb : w.heap.size ≤ b := Nat.le_trans G2.out.size (OWN.out.o b (by simp [blks])).1
      have T5 : Tch [b] w3 w5 := ((GW.out.trans GA.out).tch.mono (by simp)).trans (HT5.out.mono (by simp [blks]))
      have TT : Tch [b, w3.heap.size] w3 (w5.setCell ⟨w3.heap.size, 0, none⟩ (.slice va' (m + 1 + 1) vc')) := (T5.mono (by simp)).setCell (.inl (by simp)) _
      have GG : Gr w (w5.setCell ⟨w3.heap.size, 0, none⟩ (.slice va' (m + 1 + 1) vc')) := (gr_tch (G3.out.trans (GW.out.trans GA.out)) HT5.out HD5.out (fun z hz => by simp [blks] at hz; omega)).setCell (by have := G3.out.size; simp only; omega) _
      have hnew : ¬ w3.heap.size ∈ blks (.slice va' (m + 1 + 1) vc') := fun hm => by
        rcases HB5.out _ hm with h | h
        · simp [blks] at h; omega
        · have := GA.out.size; simp at h; omega
      have SS : Sl (w5.setCell ⟨w3.heap.size, 0, none⟩ (.slice va' (m + 1 + 1) vc')) 60 7 (.slice va' (m + 1 + 1) vc') (m + 1 + 1) (blkC (init ++ [B] ++ [B])) := by
        rw [blkC_snoc (init ++ [B]) B]
        have h := HS5.out.kept (S := [w3.heap.size]) ((Tch.refl _ w5).setCell (p := ⟨w3.heap.size, 0, none⟩) (.inl (by simp)) (.slice va' (m + 1 + 1) vc')) (fun x hx hm => by simp at hm; subst hm; exact hnew hx)
        rw [show B.cells = [.int .i64 B.lab, .slice none 0 0, .slice ia B.ins.length ic, .int .u8 B.e, .int .i64 B.a, .int .i64 B.y, .int .i64 B.n] by unfold BlkM.cells; rw [HPV.out, HIV.out]]
        exact h
      have cp2 : (w5.setCell ⟨w3.heap.size, 0, none⟩ (.slice va' (m + 1 + 1) vc')).cell? ⟨w3.heap.size, 0, none⟩ = some (.slice va' (m + 1 + 1) vc') := World.cell?_setCell_same _ _ _ cp5
      have hln : (init ++ [B] ++ [B]).length = m + 1 + 1 := by simp [HM.out]
      have PP : ProgOk (w5.setCell ⟨w3.heap.size, 0, none⟩ (.slice va' (m + 1 + 1) vc')) (.slice va' (m + 1 + 1) vc') (init ++ [B] ++ [B]) := ⟨by rw [hln]; exact SS, fun y hy => by
        have hm : y ∈ init ++ [B] := by
          rcases List.mem_append.1 hy with h | h
          · exact h
          · simp at h; subst h; simp
        have hp := OWN.out.p y hm
        exact ⟨by rw [hp.1, hp.2]; exact Sl.nil _ _ _, fun z hz => by rw [hp.2] at hz; simp at hz, (OWN.out.i y hm).kept TT (fun x hx hx2 => by
          have h1 := (OWN.out.q y hm x hx).2.2
          have h2 := (OWN.out.i y hm).lt x hx
          simp [blks] at h1 hx2
          rcases hx2 with h | h
          · exact h1 h
          · omega)⟩⟩
      have hcl := check_twice (C := B) HL2.out.2 P1.out (by rw [← P1.out.l]; unfold labsOf; simp) (P1.out.size B (by simp))
      have WF : ∀ x ∈ init ++ [B] ++ [B], BlkWf x := fun x hx => P1.out.wf x (by
        rcases List.mem_append.1 hx with h | h
        · exact h
        · simp at h; subst h; simp)
      have CKh := hid (check_any _ _ (w5.setCell ⟨w3.heap.size, 0, none⟩ (.slice va' (m + 1 + 1) vc')) (HK.out.gr GG) PP WF hcl.2)
      rw [hcl.1] at CKh
      have GGh := hid GG
      have l2 := cell_lt cp2
      simp only at l2
      clear hwb T5 TT GG hnew SS hln PP hcl WF OWN OB HS5 HT5 HB5 HD5 cp5 fz5
      generalize (w5.setCell ⟨w3.heap.size, 0, none⟩ (.slice va' (m + 1 + 1) vc')) = W2 at *
      go_wp2_with (fail)
      refine CKh.out.mono ?_
      rintro e w9 ⟨rfl, g9⟩
      go_wp2_with (fail)
      go_ret
      exact ⟨rfl, GGh.out.trans g9⟩
    · go_simp
      refine hK.out _ _ (((Gr.refl _).alloc _).val (by assumption)) (fun hH2 => ?_)
      clear hHeld hK K
      have hHeld := hH2
      clear hH2
      try simp only [Act.put, List.setIfInBounds_toArray, List.set_cons_zero, List.set_cons_succ]
      have gA : Gr W1 (W1.alloc (.cells #[.int .i64 B.lab, .slice none 0 0, .slice ia B.ins.length ic, .int .u8 B.e, .int .i64 B.a, .int .i64 B.y, .int .i64 B.n] 60)) := (Gr.refl W1).alloc _
      have CN := hid (cells_new W1 W1.heap.size rfl B.cells 60)
      rw [show B.cells = [.int .i64 B.lab, .slice none 0 0, .slice ia B.ins.length ic, .int .u8 B.e, .int .i64 B.a, .int .i64 B.y, .int .i64 B.n] by unfold BlkM.cells; rw [HPV.out, HIV.out]] at CN
      replace cp := gA.val cp
      have GA := hid gA
      have OBA := hid (OBP.out)
      clear gA wz0 wz1 wz2 wz3 wz4 wz5 wz6 fz1
      refine wpAnyH_ready (rs := [1]) (by kernel_rfl) (by simp) (AllReadyH.cons (o := { dst := some 68, op := Go.Op.load 50 (Go.Operand.tmp 67), type := 50, pos := "law.go:237", after := #[{ on := 0, ground := Go.Ground.data }], guard := none }) rfl (fun K hK => ?_) AllReadyH.nil)
      have cpw := cp
      have lpw := cell_lt cp
      simp only at lpw
      go_simp
      refine hK.out _ _ (by assumption) (fun hH2 => ?_)
      clear hHeld hK K
      have hHeld := hH2
      clear hH2
      try simp only [Act.put, List.setIfInBounds_toArray, List.set_cons_zero, List.set_cons_succ]
      clear cpw lpw
      refine wpAnyH_ready (rs := [6]) (by kernel_rfl) (by simp) (AllReadyH.cons (o := { dst := some 73, op := Go.Op.call { callee := Go.Callee.builtin Go.Builtin.append, args := #[Go.Operand.tmp 68, Go.Operand.tmp 72], argTypes := #[50, 50] }, type := 50, pos := "law.go:237", after := #[{ on := 1, ground := Go.Ground.data }, { on := 5, ground := Go.Ground.data }], guard := none }) rfl (fun K hK => ?_) AllReadyH.nil)
      refine step_append_t rfl _ _ 50 rfl Tryd.underlying50 info_blk rfl (by decide) (.slice (some ⟨b, off, none⟩) (m + 1) c) rfl (OB.out.gr (GW.out.trans GA.out)) ⟨_, 0, none⟩ 1 1 rfl [.int .i64 B.lab, .slice none 0 0, .slice ia B.ins.length ic, .int .u8 B.e, .int .i64 B.a, .int .i64 B.y, .int .i64 B.n] rfl CN.out (by simp [Value.oneCell']) (by omega) ?_
      intro v' w5 hs' ht hd hb
      obtain ⟨va', vc', rfl⟩ := hs'.shape
      refine hK.out _ _ (tch_val ht (by assumption) (by simp [blks]; omega)) (fun hH2 => ?_)
      clear hHeld hK K
      have hHeld := hH2
      clear hH2
      try simp only [Act.put, List.setIfInBounds_toArray, List.set_cons_zero, List.set_cons_succ]
      have cp5 := tch_val ht cp (by simp [blks]; omega)
      have fz5 : w5.frozen? ⟨w3.heap.size, 0, none⟩ = false := (tch_frozen ht (p := ⟨w3.heap.size, 0, none⟩) (by have := GA.out.size; simp only; omega) (by simp [blks]; omega)).trans ((GA.out.frozen (p := ⟨w3.heap.size, 0, none⟩) (by simp only; omega)).trans (frozen_of_row _ _ _ _ _ OBP.out))
      have HS5 := hid hs'
      have HT5 := hid ht
      have HD5 := hid hd
      have HB5 := hid hb
      have l5 := cell_lt cp5
      simp only at l5
      clear hs' ht hd hb cp
      refine wpAnyH_take (i := 7) (oi := { dst := some 74, op := Go.Op.fieldAddr 52 (Go.Operand.tmp 7) 0, type := 0, pos := "law.go:237", after := #[{ on := 0, ground := Go.Ground.phase }, { on := 1, ground := Go.Ground.phase }, { on := 2, ground := Go.Ground.phase }, { on := 3, ground := Go.Ground.phase }, { on := 4, ground := Go.Ground.phase }, { on := 5, ground := Go.Ground.phase }, { on := 6, ground := Go.Ground.phase }], guard := none }) (v := ?_) rfl (by kernel_rfl) (by kernel_rfl) (by kernel_rfl) (fun _ _ _ h => h) (Or.inl ⟨by rfl, ?_⟩) (by assumption) ?_
      rotate_left
      (intro w hSw; (try dsimp only at hSw); go_simp; try (with_reducible rfl))
      simp only [Act.put, List.setIfInBounds_toArray, List.set_cons_zero, List.set_cons_succ]
      refine wpAnyH_ready (rs := [8]) (by kernel_rfl) (by simp) (AllReadyH.cons (o := { dst := none, op := Go.Op.store 50 (Go.Operand.tmp 74) (Go.Operand.tmp 73), type := 0, pos := "law.go:237", after := #[{ on := 7, ground := Go.Ground.data }, { on := 6, ground := Go.Ground.data }, { on := 6, ground := Go.Ground.chain }, { on := 0, ground := Go.Ground.phase }, { on := 1, ground := Go.Ground.phase }, { on := 2, ground := Go.Ground.phase }, { on := 3, ground := Go.Ground.phase }, { on := 4, ground := Go.Ground.phase }, { on := 5, ground := Go.Ground.phase }, { on := 6, ground := Go.Ground.phase }], guard := none }) rfl (fun K hK => ?_) AllReadyH.nil)
      go_simp
      refine hK.out _ _ ((World.cell?_setCell_far w5 ⟨w3.heap.size, 0, none⟩ ⟨w3.heap.size + 1, 0, none⟩ _ (by simp)).trans (by assumption)) (fun hH2 => ?_)
      clear hHeld hK K
      have hHeld := hH2
      clear hH2
      try simp only [Act.put, List.setIfInBounds_toArray, List.set_cons_zero, List.set_cons_succ]
      refine wpAnyH_take (i := 9) (oi := { dst := some 10, op := Go.Op.assign (Go.Operand.const (Go.Value.int Go.IntKind.i64 8)), type := 54, pos := "law.go:237", after := #[{ on := 8, ground := Go.Ground.chain }, { on := 0, ground := Go.Ground.phase }, { on := 1, ground := Go.Ground.phase }, { on := 2, ground := Go.Ground.phase }, { on := 3, ground := Go.Ground.phase }, { on := 4, ground := Go.Ground.phase }, { on := 5, ground := Go.Ground.phase }, { on := 6, ground := Go.Ground.phase }, { on := 7, ground := Go.Ground.phase }, { on := 8, ground := Go.Ground.phase }], guard := none }) (v := ?_) rfl (by kernel_rfl) (by kernel_rfl) (by kernel_rfl) (fun _ _ _ h => h) (Or.inl ⟨by rfl, ?_⟩) (by assumption) ?_
      rotate_left
      (intro w hSw; (try dsimp only at hSw); go_simp; try (with_reducible rfl))
      simp only [Act.put, List.setIfInBounds_toArray, List.set_cons_zero, List.set_cons_succ]
      refine wpAnyH_done (by kernel_rfl) (NoPanic.normal ?_) _
      go_simp
      have hwb : w.heap.size ≤ b := Nat.le_trans G2.out.size (OWN.out.o b (by simp [blks])).1
      have T5 : Tch [b] w3 w5 := ((GW.out.trans GA.out).tch.mono (by simp)).trans (HT5.out.mono (by simp [blks]))
      have TT : Tch [b, w3.heap.size] w3 (w5.setCell ⟨w3.heap.size, 0, none⟩ (.slice va' (m + 1 + 1) vc')) := (T5.mono (by simp)).setCell (.inl (by simp)) _
      have GG : Gr w (w5.setCell ⟨w3.heap.size, 0, none⟩ (.slice va' (m + 1 + 1) vc')) := (gr_tch (G3.out.trans (GW.out.trans GA.out)) HT5.out HD5.out (fun z hz => by simp [blks] at hz; omega)).setCell (by have := G3.out.size; simp only; omega) _
      have hnew : ¬ w3.heap.size ∈ blks (.slice va' (m + 1 + 1) vc') := fun hm => by
        rcases HB5.out _ hm with h | h
        · simp [blks] at h; omega
        · have := GA.out.size; simp at h; omega
      have SS : Sl (w5.setCell ⟨w3.heap.size, 0, none⟩ (.slice va' (m + 1 + 1) vc')) 60 7 (.slice va' (m + 1 + 1) vc') (m + 1 + 1) (blkC (init ++ [B] ++ [B])) := by
        rw [blkC_snoc (init ++ [B]) B]
        have h := HS5.out.kept (S := [w3.heap.size]) ((Tch.refl _ w5).setCell (p := ⟨w3.heap.size, 0, none⟩) (.inl (by simp)) (.slice va' (m + 1 + 1) vc')) (fun x hx hm => by simp at hm; subst hm; exact hnew hx)
        rw [show B.cells = [.int .i64 B.lab, .slice none 0 0, .slice ia B.ins.length ic, .int .u8 B.e, .int .i64 B.a, .int .i64 B.y, .int .i64 B.n] by unfold BlkM.cells; rw [HPV.out, HIV.out]]
        exact h
      have cp2 : (w5.setCell ⟨w3.heap.size, 0, none⟩ (.slice va' (m + 1 + 1) vc')).cell? ⟨w3.heap.size, 0, none⟩ = some (.slice va' (m + 1 + 1) vc') := World.cell?_setCell_same _ _ _ cp5
      have hln : (init ++ [B] ++ [B]).length = m + 1 + 1 := by simp [HM.out]
      have PP : ProgOk (w5.setCell ⟨w3.heap.size, 0, none⟩ (.slice va' (m + 1 + 1) vc')) (.slice va' (m + 1 + 1) vc') (init ++ [B] ++ [B]) := ⟨by rw [hln]; exact SS, fun y hy => by
        have hm : y ∈ init ++ [B] := by
          rcases List.mem_append.1 hy with h | h
          · exact h
          · simp at h; subst h; simp
        have hp := OWN.out.p y hm
        exact ⟨by rw [hp.1, hp.2]; exact Sl.nil _ _ _, fun z hz => by rw [hp.2] at hz; simp at hz, (OWN.out.i y hm).kept TT (fun x hx hx2 => by
          have h1 := (OWN.out.q y hm x hx).2.2
          have h2 := (OWN.out.i y hm).lt x hx
          simp [blks] at h1 hx2
          rcases hx2 with h | h
          · exact h1 h
          · omega)⟩⟩
      have hcl := check_twice (C := B) HL2.out.2 P1.out (by rw [← P1.out.l]; unfold labsOf; simp) (P1.out.size B (by simp))
      have WF : ∀ x ∈ init ++ [B] ++ [B], BlkWf x := fun x hx => P1.out.wf x (by
        rcases List.mem_append.1 hx with h | h
        · exact h
        · simp at h; subst h; simp)
      have CKh := hid (check_any _ _ (w5.setCell ⟨w3.heap.size, 0, none⟩ (.slice va' (m + 1 + 1) vc')) (HK.out.gr GG) PP WF hcl.2)
      rw [hcl.1] at CKh
      have GGh := hid GG
      have l2 := cell_lt cp2
      simp only at l2
      clear hwb T5 TT GG hnew SS hln PP hcl WF OWN OB HS5 HT5 HB5 HD5 cp5 fz5
      generalize (w5.setCell ⟨w3.heap.size, 0, none⟩ (.slice va' (m + 1 + 1) vc')) = W2 at *
      go_wp2_with (fail)
      refine CKh.out.mono ?_
      rintro e w9 ⟨rfl, g9⟩
      go_wp2_with (fail)
      go_ret
      exact ⟨rfl, GGh.out.trans g9⟩
end Go.Proofs.YteiekjijbaohoaaDoor
