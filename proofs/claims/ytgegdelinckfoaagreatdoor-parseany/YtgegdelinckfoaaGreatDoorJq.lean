/- Joined: PawA, PawB, PawC, Paw. -/
import Derived.Test.YtgegdelinckfoaaGreatDoorJp
import Derived.Deep.CutRange


/- ParseAny: the walk, where what is 0 of three. -/
set_option linter.unusedSimpArgs false
set_option linter.unusedVariables false
namespace Go.Proofs.YtgegdelinckfoaaGreatDoor
open Go.RowKit Go.Sort

set_option maxRecDepth 100000 in
set_option maxHeartbeats 16000000 in
theorem any_walkA (raw : ByteArray) (s : SmlM) (cut put what : Int) (w : World) (hE : Env w) (hK : Kinds w) (hW : WordsH w) (hs : SmlOk w s) (hr : raw.size ≤ maxLen) (hc : 0 ≤ cut ∧ cut ≤ 65535) (hp : 0 ≤ put ∧ put ≤ 255) (hw : 0 ≤ what ∧ what ≤ 255) (hw3 : what % 3 = 0) :
    Calls Tryz.prog 4 #[.string raw, .agg #[.int .u8 s.r, .bool s.bare, s.bv], .int .u16 cut, .int .u8 put, .int .u8 what] w fun r w' => r = .returned (.bool true) ∧ Tch [] w w' := by
  have hm : Tryz.prog.follows .mixedOrders = true := by kernel_rfl
  unfold maxLen at hr
  have HL := hid (fun W (h : SmlOk W s) => light_any s W h)
  have HPG := hid (fun W (hk : Kinds W) (h : SmlOk W s) hl => program_any s W hk h hl)
  obtain ⟨va, vc, hbv, _⟩ := hs.b.shape
  rw [hbv] at HL HPG
  rw [hbv]
  have HE := hid hE
  have HK := hid hK
  have HW := hid hW
  have HS := hid hs
  have t0 : Tch [] w (w.alloc (.cells #[.int .u8 s.r, .bool s.bare, .slice va s.bs.length vc] 24)) := (Tch.refl [] w).alloc _
  have T0 := hid t0
  clear hE hK hW t0 hs hbv
  go_enter Tryz.func4, Tryz.ntmps4
  go_upto_region 3 with (go_at_call 7; refine (awake_p _ (HE.out.below (T0.out.below (Nat.le_refl _) (by simp))) (HK.out.tch T0.out) (HW.out.tch T0.out (by simp))).mono ?_; rintro r W1 ⟨rfl, t1⟩; have T1 := hid (T0.out.trans t1); have z := t1.obj (heap_alloc_new w (.cells #[.int .u8 s.r, .bool s.bare, .slice va s.bs.length vc] 24)) (by simp); have Z := hid z; have z0 := cell_of_row _ _ 0 _ _ _ z; have z1 := cell_of_row _ _ 1 _ _ _ z; have z2 := cell_of_row _ _ 2 _ _ _ z; simp only [List.getElem?_toArray, List.getElem?_cons_zero, List.getElem?_cons_succ] at z0 z1 z2; clear t1 z)
  by_cases hlb : lightB s = true
  · rw [hlb] at HL
    have HPG := hid (fun W (hk : Kinds W) (h : SmlOk W s) => HPG.out W hk h hlb)
    have HLB := hid hlb
    clear hlb
    by_cases h200 : raw.size ≤ 200
    · go_upto_region 5 with (go_at_call 8; refine (HL.out _ (HS.out.tch T1.out)).mono ?_; rintro r W2 ⟨rfl, g2⟩; have T2 := hid (T1.out.trans g2.tch); have z := g2.tch.obj Z.out (by simp); have Z2 := hid z; have y0 := cell_of_row _ _ 0 _ _ _ z; have y1 := cell_of_row _ _ 1 _ _ _ z; have y2 := cell_of_row _ _ 2 _ _ _ z; simp only [List.getElem?_toArray, List.getElem?_cons_zero, List.getElem?_cons_succ] at y0 y1 y2; clear g2 z)
      have hnl := progA_len HLB.out
      have hne := txP_pos (progA_ne s)
      go_upto_region 6 with (first
        | (go_at_call 9; refine (HPG.out _ (HK.out.tch T2.out) (HS.out.tch T2.out)).mono ?_; rintro r W3 ⟨v, bp, bs, rfl, own, hab, g3⟩; obtain ⟨pa, pc, rfl⟩ := own.b.shape; have T3 := hid (T2.out.trans g3.tch); have PL := hid own.plp; have HAB := hid hab; clear own hab g3 y0 y1 y2)
        | (go_at_call 10; refine (tokens_p _ bs W3 PL.out (fun B hB => progA_64 HLB.out HS.out.lins _ (by rw [← HAB.out]; exact List.mem_map_of_mem hB)) (by rw [HAB.out]; omega)).mono ?_; rw [HAB.out]; rintro r W5 ⟨v5, rfl, s5, t5⟩; obtain ⟨bt5, of5, vc5, hv5⟩ := s5.s.ptr hne; obtain ⟨va5, vc6, hv6, hc5, hc6⟩ := s5.shapeC; subst hv5; cases hv6; unfold maxLen at hc6; have T5 := hid (T3.out.trans t5); have hsz := T3.out.size; have S5 := hid (show SS w.heap.size _ _ _ from ⟨s5.s, fun x hx => Nat.le_trans hsz (s5.o x hx)⟩); clear s5 t5 hsz))
      have q1 : IntKind.i64.wrap cut = cut := by rw [IntKind.wrap_i64]; omega
      obtain ⟨kn, hkn⟩ : ∃ kn : Nat, cut.tmod ((txP (progA s)).length : Int) = (kn : Int) := ⟨(cut.tmod ((txP (progA s)).length : Int)).toNat, by rw [Int.toNat_of_nonneg (Int.tmod_nonneg _ hc.1)]⟩
      have hkl : kn < (txP (progA s)).length := by
        have := Int.tmod_lt_of_pos cut (b := ((txP (progA s)).length : Int)) (by omega)
        omega
      have q3 : IntKind.i64.wrap (kn : Int) = (kn : Int) := by rw [IntKind.wrap_i64]; omega
      have HTO := hid (toky_prog HLB.out HS.out.lins)
      clear PL
      generalize txP (progA s) = TP at *
      have e17 : put.tmod 17 = put % 17 := Int.tmod_eq_emod_of_nonneg (by omega)
      have f17 : IntKind.u8.wrap (put % 17) = put % 17 := by rw [IntKind.wrap_u8]; omega
      have b17 : 0 ≤ put % 17 := by omega
      have c17_ : put % 17 < 17 := by omega
      have HX := hid (x17_cell W5 put)
      have hx17 := HX.out
      go_upto_region 8 with fail
      have T6 := hid (T5.out.alloc (.cells #[.string ⟨#[64, 51]⟩, .string ⟨#[58]⟩, .string ⟨#[10]⟩, .string ⟨#[37, 50]⟩, .string ⟨#[61]⟩, .string ⟨#[55]⟩, .string ⟨#[97, 100, 100]⟩, .string ⟨#[44]⟩, .string ⟨#[106, 117, 109, 112]⟩, .string ⟨#[98, 114]⟩, .string ⟨#[36, 49]⟩, .string ⟨#[105, 110]⟩, .string ⟨#[111, 117, 116]⟩, .string ⟨#[114, 101, 116]⟩, .string ⟨#[37, 49, 48, 48, 48, 48, 48]⟩, .string ⟨#[64, 49, 48, 48, 48, 48, 48]⟩, .string ⟨#[36, 49, 54]⟩] 9))
      have S6 := hid (S5.out.tch ((Tch.refl [] W5).alloc (.cells #[.string ⟨#[64, 51]⟩, .string ⟨#[58]⟩, .string ⟨#[10]⟩, .string ⟨#[37, 50]⟩, .string ⟨#[61]⟩, .string ⟨#[55]⟩, .string ⟨#[97, 100, 100]⟩, .string ⟨#[44]⟩, .string ⟨#[106, 117, 109, 112]⟩, .string ⟨#[98, 114]⟩, .string ⟨#[36, 49]⟩, .string ⟨#[105, 110]⟩, .string ⟨#[111, 117, 116]⟩, .string ⟨#[114, 101, 116]⟩, .string ⟨#[37, 49, 48, 48, 48, 48, 48]⟩, .string ⟨#[64, 49, 48, 48, 48, 48, 48]⟩, .string ⟨#[36, 49, 54]⟩] 9)) (by simp))
      generalize W5.alloc (.cells #[.string ⟨#[64, 51]⟩, .string ⟨#[58]⟩, .string ⟨#[10]⟩, .string ⟨#[37, 50]⟩, .string ⟨#[61]⟩, .string ⟨#[55]⟩, .string ⟨#[97, 100, 100]⟩, .string ⟨#[44]⟩, .string ⟨#[106, 117, 109, 112]⟩, .string ⟨#[98, 114]⟩, .string ⟨#[36, 49]⟩, .string ⟨#[105, 110]⟩, .string ⟨#[111, 117, 116]⟩, .string ⟨#[114, 101, 116]⟩, .string ⟨#[37, 49, 48, 48, 48, 48, 48]⟩, .string ⟨#[64, 49, 48, 48, 48, 48, 48]⟩, .string ⟨#[36, 49, 54]⟩] 9) = W6 at T6 S6 ⊢
      clear HX hx17 S5
      have HTX := hid (toky_x put)
      generalize xOf put = X at *
      have e3 : what.tmod 3 = what % 3 := Int.tmod_eq_emod_of_nonneg (by omega)
      have f3 : IntKind.u8.wrap 0 = 0 := by decide
      rw [hw3] at e3
      clear hw3
      obtain ⟨kp, hkp⟩ : ∃ kp, kp = kn + 1 := ⟨_, rfl⟩
      have q4 : IntKind.i64.wrap ((kn : Int) + 1) = (kp : Int) := by rw [IntKind.wrap_i64]; omega
      have hkp1 : kp ≤ TP.length := by omega
      have hkp2 : kp ≤ vc5 := by omega
      have hkc : kn ≤ vc5 := by omega
      have hkd : kn ≤ TP.length := by omega
      have hlk : (TP.take kn).length = kn := by rw [List.length_take]; omega
      have hlk1 : (TP.take kn ++ [X]).length = kn + 1 := by rw [List.length_append, hlk]; rfl
      have HKP := hid hkp
      have hvn : ¬ vc5 = kn := by omega
      obtain ⟨oz, hoz, hoz2⟩ : ∃ oz, (if vc5 = kp then some (⟨bt5, of5, none⟩ : Addr) else some ⟨bt5, of5 + kp, none⟩) = some ⟨bt5, oz, none⟩ ∧ (TP.length - kp = 0 ∨ oz = of5 + kp) := by
        by_cases h : vc5 = kp
        · exact ⟨of5, by rw [if_pos h], .inl (by omega)⟩
        · exact ⟨of5 + kp, by rw [if_neg h], .inr rfl⟩
      have HOZ := hid hoz2
      clear hoz2 hkp
      have HLK := hid hlk
      have HLK1 := hid hlk1
      go_upto_region 12 with fail
      refine wp_region_noPanic ?_
      refine wp_region_any hm ?_
      have TT := hid T6.out.drew
      have SB := hid (S6.out.tch ((Tch.refl [] W6).drew) (by simp))
      show wpAny _ _ _ _ _ _ _ W6.drew
      generalize W6.drew = Wk at TT SB ⊢
      refine wpAny_take (i := 1) (oi := { dst := some 60, op := Go.Op.move (Go.Operand.tmp 11), type := 31, pos := "law.go:136", after := #[], guard := none }) (v := ?_) rfl (by kernel_rfl) (by kernel_rfl) (by kernel_rfl) (fun _ _ _ h => h) (Or.inl ⟨by rfl, ?_⟩) ?_
      rotate_left
      (intro w; go_simp; try (with_reducible rfl))
      simp only [Act.put, List.setIfInBounds_toArray, List.set_cons_zero, List.set_cons_succ]
      refine wpAny_take (i := 2) (oi := { dst := some 61, op := Go.Op.move (Go.Operand.tmp 12), type := 3, pos := "law.go:136", after := #[], guard := none }) (v := ?_) rfl (by kernel_rfl) (by kernel_rfl) (by kernel_rfl) (fun _ _ _ h => h) (Or.inl ⟨by rfl, ?_⟩) ?_
      rotate_left
      (intro w; go_simp; try (with_reducible rfl))
      simp only [Act.put, List.setIfInBounds_toArray, List.set_cons_zero, List.set_cons_succ]
      refine wpAny_take (i := 3) (oi := { dst := some 62, op := Go.Op.slice 31 (Go.Operand.tmp 60) none (some (Go.Operand.tmp 61)) none, type := 31, pos := "law.go:136", after := #[{ on := 1, ground := Go.Ground.data }, { on := 2, ground := Go.Ground.data }], guard := none }) (v := ?_) rfl (by kernel_rfl) (by kernel_rfl) (by kernel_rfl) (fun _ _ _ h => h) (Or.inl ⟨by rfl, ?_⟩) ?_
      rotate_left
      (intro w; go_simp; try (with_reducible rfl))
      simp only [Act.put, List.setIfInBounds_toArray, List.set_cons_zero, List.set_cons_succ]
      refine wpAny_take (i := 5) (oi := { dst := some 64, op := Go.Op.move (Go.Operand.tmp 11), type := 31, pos := "law.go:136", after := #[], guard := none }) (v := ?_) rfl (by kernel_rfl) (by kernel_rfl) (by kernel_rfl) (fun _ _ _ h => h) (Or.inl ⟨by rfl, ?_⟩) ?_
      rotate_left
      (intro w; go_simp; try (with_reducible rfl))
      simp only [Act.put, List.setIfInBounds_toArray, List.set_cons_zero, List.set_cons_succ]
      refine wpAny_take (i := 6) (oi := { dst := some 65, op := Go.Op.move (Go.Operand.tmp 12), type := 3, pos := "law.go:136", after := #[], guard := none }) (v := ?_) rfl (by kernel_rfl) (by kernel_rfl) (by kernel_rfl) (fun _ _ _ h => h) (Or.inl ⟨by rfl, ?_⟩) ?_
      rotate_left
      (intro w; go_simp; try (with_reducible rfl))
      simp only [Act.put, List.setIfInBounds_toArray, List.set_cons_zero, List.set_cons_succ]
      refine wpAny_take (i := 7) (oi := { dst := some 66, op := Go.Op.binOp Go.BinOp.add 3 (Go.Operand.tmp 65) (Go.Operand.const (Go.Value.int Go.IntKind.i64 1)) 3, type := 3, pos := "law.go:136", after := #[{ on := 6, ground := Go.Ground.data }], guard := none }) (v := ?_) rfl (by kernel_rfl) (by kernel_rfl) (by kernel_rfl) (fun _ _ _ h => h) (Or.inl ⟨by rfl, ?_⟩) ?_
      rotate_left
      (intro w; go_simp; try (with_reducible rfl))
      simp only [Act.put, List.setIfInBounds_toArray, List.set_cons_zero, List.set_cons_succ]
      refine wpAny_take (i := 8) (oi := { dst := some 67, op := Go.Op.slice 31 (Go.Operand.tmp 64) (some (Go.Operand.tmp 66)) none none, type := 31, pos := "law.go:136", after := #[{ on := 5, ground := Go.Ground.data }, { on := 7, ground := Go.Ground.data }], guard := none }) (v := .slice (some ⟨bt5, oz, none⟩) (TP.length - kp) (vc5 - kp)) rfl (by kernel_rfl) (by kernel_rfl) (by kernel_rfl) (fun _ _ _ h => h) (Or.inl ⟨by rfl, ?_⟩) ?_
      · intro w; go_simp; try simp [hoz]
      simp only [Act.put, List.setIfInBounds_toArray, List.set_cons_zero, List.set_cons_succ]
      refine wpAny_ready (rs := [0]) (by kernel_rfl) (by simp) (AllReady.cons (o := { dst := some 59, op := Go.Op.buildSlice 31 0 #[], type := 31, pos := "law.go:136", after := #[], guard := none }) rfl (fun K hK => ?_) AllReady.nil)
      go_simp
      refine hK _ _ ?_
      clear hK K
      try simp only [Act.put, List.setIfInBounds_toArray, List.set_cons_zero, List.set_cons_succ]
      have S0 := hid (ss_new (n := w.heap.size) Wk Wk.heap.size rfl TT.out.size [] (by simp))
      have nb0 : bt5 < Wk.heap.size := SB.out.s.lt bt5 (by simp [blks])
      replace SB := hid (SB.out.tch ((Tch.refl [] Wk).alloc (.cells #[] 9)) (by simp))
      replace TT := hid (TT.out.alloc (.cells #[] 9))
      have zb0 : Wk.heap.size < (Wk.alloc (.cells #[] 9)).heap.size := by simp
      replace S0 := hid (show SS w.heap.size (.slice (some ⟨Wk.heap.size, 0, none⟩) 0 0) [] (Wk.alloc (.cells #[] 9)) from S0.out)
      generalize Wk.alloc (.cells #[] 9) = W0 at S0 SB TT zb0 ⊢
      generalize Wk.heap.size = b0 at S0 nb0 zb0 ⊢
      obtain ⟨Wk, rfl⟩ : ∃ W : World, W = W0 := ⟨_, rfl⟩
      refine wpAny_ready (rs := [4]) (by kernel_rfl) (by simp) (AllReady.cons (o := { dst := some 63, op := Go.Op.call { callee := Go.Callee.builtin Go.Builtin.append, args := #[Go.Operand.tmp 59, Go.Operand.tmp 62], argTypes := #[31, 31] }, type := 31, pos := "law.go:136", after := #[{ on := 0, ground := Go.Ground.data }, { on := 3, ground := Go.Ground.data }], guard := none }) rfl (fun K hK => ?_) AllReady.nil)
      refine step_append_t rfl _ _ 31 rfl Tryz.underlying31 info_str rfl (by decide) (.slice (some ⟨b0, 0, none⟩) 0 0) rfl S0.out.s (⟨bt5, of5, none⟩) (kn) (vc5) rfl (svs (TP.take kn)) (by rw [svs_len, hlk]) ((SB.out.take hne kn (by omega)).news.2) (svs_one _) (by simp; omega) ?_
      intro v8 w8 hs8 ht8 hd8 hb8
      rw [show ([] : List (List UInt8)).length + kn = kn by simp, show svs [] ++ svs (TP.take kn) = svs (TP.take kn) from rfl] at hs8
      obtain ⟨ya, yc, hv8⟩ := hs8.shape
      subst hv8
      have S8 := hid (show SS w.heap.size (.slice ya kn yc) (TP.take kn) w8 from ⟨by rw [hlk]; exact hs8, fun x hx => by rcases hb8 x hx with h | h; exact S0.out.o x h; exact Nat.le_trans TT.out.size h⟩)
      have N8 := hid (show ∀ b ∈ blks (.slice ya kn yc), ¬ b = bt5 from fun b hb e => by rcases hb8 b hb with h | h; simp [blks] at h; omega; have := SB.out.s.lt bt5 (by simp [blks]); omega)
      replace TT := hid (show Tch [] w w8 from TT.out.trans2 ht8 (fun x hx => .inr (S0.out.o x hx)))
      replace SB := hid (show SS w.heap.size (.slice (some ⟨bt5, of5, none⟩) TP.length vc5) TP w8 from ⟨SB.out.s.kept ht8 (fun b hb hm => by simp [blks] at hb hm; omega), SB.out.o⟩)
      clear hs8 ht8 hd8 hb8
      refine hK _ _ ?_
      clear hK K
      try simp only [Act.put, List.setIfInBounds_toArray, List.set_cons_zero, List.set_cons_succ]
      obtain ⟨Wk, rfl⟩ : ∃ W : World, W = w8 := ⟨_, rfl⟩
      refine wpAny_ready (rs := [9]) (by kernel_rfl) (by simp) (AllReady.cons (o := { dst := some 68, op := Go.Op.call { callee := Go.Callee.builtin Go.Builtin.append, args := #[Go.Operand.tmp 63, Go.Operand.tmp 67], argTypes := #[31, 31] }, type := 31, pos := "law.go:136", after := #[{ on := 4, ground := Go.Ground.data }, { on := 8, ground := Go.Ground.data }, { on := 4, ground := Go.Ground.chain }], guard := none }) rfl (fun K hK => ?_) AllReady.nil)
      refine step_append_t rfl _ _ 31 rfl Tryz.underlying31 info_str rfl (by decide) (.slice ya kn yc) rfl S8.out.s (⟨bt5, oz, none⟩) (TP.length - kp) (vc5 - kp) rfl (svs (TP.drop kp)) (by rw [svs_len, List.length_drop]) (by rcases HOZ.out with h | h; exact fun j u hj => by { rw [show TP.drop kp = [] from List.drop_of_length_le (by omega)] at hj; simp [svs] at hj }; rw [h]; exact (SB.out.drop' kp (by omega)).news.2) (svs_one _) (by rw [hlk]; omega) ?_
      intro v5 wc hs5 ht5 hd5 hb5
      rw [hlk] at hs5
      obtain ⟨xa, xc, hv5⟩ := hs5.shape
      subst hv5
      have HAS := hid (show AnS w (.slice xa (kn + (TP.length - kp)) xc) ((TP.take kn) ++ TP.drop kp) wc from ⟨⟨by rw [List.length_append, hlk, List.length_drop, ← svs_app]; exact hs5, fun x hx => by rcases hb5 x hx with h | h; exact S8.out.o x h; exact Nat.le_trans TT.out.size h⟩, TT.out.trans2 ht5 (fun x hx => .inr (S8.out.o x hx)), (HTO.out.take kn).app (HTO.out.drop kp), by rw [List.length_append, hlk, List.length_drop]; have := HKP.out; omega⟩)
      clear hs5 ht5 hd5 hb5
      refine hK _ _ ?_
      clear hK K
      try simp only [Act.put, List.setIfInBounds_toArray, List.set_cons_zero, List.set_cons_succ]
      refine wpAny_take (i := 10) (oi := { dst := some 11, op := Go.Op.assign (Go.Operand.tmp 68), type := 31, pos := "law.go:136", after := #[{ on := 9, ground := Go.Ground.data }, { on := 9, ground := Go.Ground.chain }, { on := 0, ground := Go.Ground.phase }, { on := 1, ground := Go.Ground.phase }, { on := 2, ground := Go.Ground.phase }, { on := 3, ground := Go.Ground.phase }, { on := 4, ground := Go.Ground.phase }, { on := 5, ground := Go.Ground.phase }, { on := 6, ground := Go.Ground.phase }, { on := 7, ground := Go.Ground.phase }, { on := 8, ground := Go.Ground.phase }, { on := 9, ground := Go.Ground.phase }], guard := none }) (v := ?_) rfl (by kernel_rfl) (by kernel_rfl) (by kernel_rfl) (fun _ _ _ h => h) (Or.inl ⟨by rfl, ?_⟩) ?_
      rotate_left
      (intro w; go_simp; try (with_reducible rfl))
      simp only [Act.put, List.setIfInBounds_toArray, List.set_cons_zero, List.set_cons_succ]
      refine wpAny_done (by kernel_rfl) (NoPanic.normal ?_) _
      go_simp
      go_upto_region 15 with fail
      generalize (TP.take kn) ++ TP.drop kp = L at HAS
      generalize kn + (TP.length - kp) = nL at HAS ⊢
      clear HKP HLK HLK1 hvn HOZ hoz q4 hkp1 hkp2 hkc hkd hlk hlk1
      obtain ⟨sL, tL, kL_, nL⟩ := HAS.out
      have hTk := kL_.txt nL
      have hl3 := hTk.1
      have HT7 := hid tL
      have HTN := hid (text_nil (.slice xa _ xc) L _ wc sL (by omega))
      have st := bytes_size (txT L)
      have HTO2 := hid hTk.2
      clear HAS sL tL kL_ hTk hkl hkn q1 q3 e17 f17 b17 c17_ e3 f3 HTO HTX T6 S6 hne hnl hc5 hc6
      generalize bytesOf (txT L) = TXL at *
      have s4 : (⟨#[64, 48, 58, 10]⟩ : ByteArray).size = 4 := rfl
      have s5 : (⟨#[10, 116, 114, 97, 112]⟩ : ByteArray).size = 5 := rfl
      have s6 : ((⟨#[64, 48, 58, 10]⟩ : ByteArray) ++ raw).size = 4 + raw.size := by rw [ByteArray.size_append, s4]
      have s7 : (((⟨#[64, 48, 58, 10]⟩ : ByteArray) ++ raw) ++ (⟨#[10, 116, 114, 97, 112]⟩ : ByteArray)).size = 4 + raw.size + 5 := by rw [ByteArray.size_append, s6, s5]
      have HR3 := hid (raw_txt (s := ((⟨#[64, 48, 58, 10]⟩ : ByteArray) ++ raw) ++ (⟨#[10, 116, 114, 97, 112]⟩ : ByteArray)) (by omega))
      have HR1 := hid (raw_txt (s := raw) (by omega))
      have l6 : TXL.size ≤ 30000 := by omega
      clear st hl3
      go_wp2_with (go_at_call 12; refine HTN.out.mono ?_; rintro r W8 ⟨rfl, t8⟩; have T8 := hid (HT7.out.trans t8); clear t8)
      generalize hTX3 : ((⟨#[64, 48, 58, 10]⟩ : ByteArray) ++ raw) ++ (⟨#[10, 116, 114, 97, 112]⟩ : ByteArray) = TX3 at *
      have M := hid (heap_alloc_new W8 (.cells #[.string raw, .string TXL, .string TX3] 9))
      have T9 := hid (T8.out.alloc (.cells #[.string raw, .string TXL, .string TX3] 9))
      generalize W8.alloc (.cells #[.string raw, .string TXL, .string TX3] 9) = W9 at M T9 ⊢
      generalize W8.heap.size = q9 at M ⊢
      clear hTX3 s4 s5 s6 s7
      go_loopw [15, 16, 17, 18, 19, 20, 21, 22, 23, 24, 91] (fun _ _ _ _ _ _ _ _ _ _ vi wr => ∃ k : Nat, vi = .int .i64 k ∧ k ≤ 3 ∧ Hid (Tch [] W9 wr)) (fun _ _ _ _ _ _ _ _ _ _ vi _ => 3 - (intOf vi).toNat)
      case atStart => exact ⟨0, rfl, by omega, Tch.refl _ _⟩
      case round =>
        obtain ⟨k, rfl, hk, HT⟩ := hrel
        have T10 := hid (T9.out.trans HT.out)
        by_cases hlt : k < 3
        · obtain ⟨tx, hcx, hok⟩ : ∃ tx, wr.cell? ⟨q9, k, none⟩ = some (.string tx) ∧ TxtOk tx := by
            have mo := HT.out.obj M.out (by simp)
            have hk3 : k = 0 ∨ k = 1 ∨ k = 2 := by omega
            rcases hk3 with rfl | rfl | rfl
            · exact ⟨raw, cell_of_row _ _ 0 _ _ _ mo, HR1.out⟩
            · exact ⟨TXL, cell_of_row _ _ 1 _ _ _ mo, HTO2.out⟩
            · exact ⟨TX3, cell_of_row _ _ 2 _ _ _ mo, HR3.out⟩
          have ltq : q9 < wr.heap.size := cell_lt hcx
          have htn := hok.n
          have HPA := hid (fun W => parse_any tx (by omega) W)
          rcases again_or hok with ⟨P, ag⟩ | ⟨pl, er, wg⟩
          · have AG := hid ag
            have HPB := hid (fun W => parse_any (bytesOf (txT (txP P))) (by rw [bytes_size]; have := ag.t; omega) W)
            clear ag hok
            go_upto_region 19 with (go_at_call 11; refine (HPA.out _ (HE.out.below (T10.out.below (Nat.le_refl _) (by simp))) (HK.out.tch T10.out) (HW.out.tch T10.out (by simp))).mono ?_; rintro r Wp ⟨qa, qc, cs, rfl, hab, tp, pg⟩; rw [AG.out.r] at hab ⊢; have Tp := hid (T10.out.trans tp); have HTp := hid (HT.out.trans tp); have PG := hid pg.plp; have HAC := hid hab; clear hab tp pg)
            have M1 := hid (heap_alloc_new Wp (.cells #[.slice qa cs.length qc] 29))
            have T1q := hid (Tp.out.alloc (.cells #[.slice qa cs.length qc] 29))
            have HT1 := hid (HTp.out.alloc (.cells #[.slice qa cs.length qc] 29))
            have PG1 := hid (PG.out.tch ((Tch.refl [] Wp).alloc (.cells #[.slice qa cs.length qc] 29)))
            generalize Wp.alloc (.cells #[.slice qa cs.length qc] 29) = Wq at M1 T1q HT1 PG1 ⊢
            have lm1 := lt_of_obj M1.out
            have m1 : Wq.cell? ⟨Wp.heap.size, 0, none⟩ = some (.slice qa cs.length qc) := cell_of_row _ _ 0 _ _ _ M1.out
            generalize Wp.heap.size = qp at M1 lm1 m1 ⊢
            have hpl := PG1.out.b.le
            unfold maxLen at hpl
            go_upto_region 21 with (first
              | (go_at_call 10; refine (tokens_p _ cs _ PG1.out (fun B hB => blk_64 (AG.out.b _ (by rw [← HAC.out]; exact List.mem_map_of_mem hB))) (by rw [HAC.out]; have := AG.out.l; omega)).mono ?_; rw [HAC.out]; rintro r Wa ⟨v5, rfl, s5, t5⟩; obtain ⟨va5, vc5, rfl, hc5, hc6⟩ := s5.shapeC; have S5 := hid s5; have Ta := hid (T1q.out.trans t5); have HTa := hid (HT1.out.trans t5); have PGa := hid (PG1.out.tch t5); have M1a := hid (t5.obj M1.out (by simp)); clear s5 t5)
              | (go_at_call 12; refine (text_nil _ _ _ _ S5.out (by have := AG.out.t; omega)).mono ?_; rintro r Wb ⟨rfl, t6⟩; have Tb := hid (Ta.out.trans t6); have HTb := hid (HTa.out.trans t6); have PGb := hid (PGa.out.tch t6); have M1b := hid (t6.obj M1a.out (by simp)); clear t6)
              | (go_at_call 11; refine (HPB.out _ (HE.out.below (Tb.out.below (Nat.le_refl _) (by simp))) (HK.out.tch Tb.out) (HW.out.tch Tb.out (by simp))).mono ?_; rintro r Wd ⟨ra, rc, ds, rfl, hab, t7, pg⟩; rw [AG.out.a] at hab ⊢; have Td := hid (Tb.out.trans t7); have HTd := hid (HTb.out.trans t7); have PGd := hid (PGb.out.tch t7); have M1d := hid (t7.obj M1b.out (by simp)); have PH := hid pg.plp; have HAD := hid hab; clear hab t7 pg))
            have M2 := hid (heap_alloc_new Wd (.cells #[.slice ra ds.length rc] 29))
            have M1f := hid (((Tch.refl [] Wd).alloc (.cells #[.slice ra ds.length rc] 29)).obj M1d.out (by simp))
            have Tf := hid (Td.out.alloc (.cells #[.slice ra ds.length rc] 29))
            have HTf := hid (HTd.out.alloc (.cells #[.slice ra ds.length rc] 29))
            have PGf := hid (PGd.out.tch ((Tch.refl [] Wd).alloc (.cells #[.slice ra ds.length rc] 29)))
            have PHf := hid (PH.out.tch ((Tch.refl [] Wd).alloc (.cells #[.slice ra ds.length rc] 29)))
            generalize Wd.alloc (.cells #[.slice ra ds.length rc] 29) = Wf at M2 M1f Tf HTf PGf PHf ⊢
            generalize Wd.heap.size = qd at M2 ⊢
            have lf1 := lt_of_obj M1f.out
            have mf1 : Wf.cell? ⟨qp, 0, none⟩ = some (.slice qa cs.length qc) := cell_of_row _ _ 0 _ _ _ M1f.out
            have lf2 := lt_of_obj M2.out
            have mf2 : Wf.cell? ⟨qd, 0, none⟩ = some (.slice ra ds.length rc) := cell_of_row _ _ 0 _ _ _ M2.out
            clear m1 lm1
            have HCK := hid (check_p _ cs Wf (HK.out.tch Tf.out) PGf.out (by rw [HAC.out]; exact AG.out.b) (by rw [HAC.out]; exact AG.out.n))
            rw [HAC.out, AG.out.c] at HCK
            go_wp2_with (first
              | (go_at_call 14; refine HCK.out.mono ?_; rintro r Wg ⟨rfl, t8⟩; have HTg := hid (HTf.out.trans t8); have PGg := hid (PGf.out.tch t8); have PHg := hid (PHf.out.tch t8); have Mg1 := hid (t8.obj M1f.out (by simp)); have Mg2 := hid (t8.obj M2.out (by simp)); have lg1 := lt_of_obj Mg1.out; have mg1 : Wg.cell? ⟨qp, 0, none⟩ = some (.slice qa cs.length qc) := cell_of_row _ _ 0 _ _ _ Mg1.out; clear t8)
              | (go_at_call 15; refine (plain_true _ cs _ PGg.out).mono ?_; rintro r Wh ⟨rfl, t9⟩; have HTh := hid (HTg.out.trans t9); have PGh := hid (PGg.out.tch t9); have PHh := hid (PHg.out.tch t9); have Mh1 := hid (t9.obj Mg1.out (by simp)); have Mh2 := hid (t9.obj Mg2.out (by simp)); have lh1 := lt_of_obj Mh1.out; have mh1 : Wh.cell? ⟨qp, 0, none⟩ = some (.slice qa cs.length qc) := cell_of_row _ _ 0 _ _ _ Mh1.out; have lh2 := lt_of_obj Mh2.out; have mh2 : Wh.cell? ⟨qd, 0, none⟩ = some (.slice ra ds.length rc) := cell_of_row _ _ 0 _ _ _ Mh2.out; clear t9)
              | (go_at_call 13; refine (same_true _ _ cs ds _ PGh.out PHh.out (HAC.out.trans HAD.out.symm)).mono ?_; rintro r Wk ⟨rfl, tk⟩; have HTk := hid (HTh.out.trans tk); clear tk))
            go_roundw
            case rel => exact ⟨k + 1, by go_num, by omega, HTk.out⟩
            case measure => simp [intOf]; omega
          · have WG := hid wg
            have her : (er == 0) = false := by simpa using wg.e
            have hp0 := wg.p.1
            have hp1 := wg.p.2
            clear wg hok
            go_upto_region 25 with (go_at_call 11; refine (HPA.out _ (HE.out.below (T10.out.below (Nat.le_refl _) (by simp))) (HK.out.tch T10.out) (HW.out.tch T10.out (by simp))).mono ?_; rintro r Wp ⟨qa, qc, cs, rfl, hab, tp, pg⟩; rw [WG.out.r] at hab ⊢; have hnil : cs = [] := List.map_eq_nil_iff.1 hab; subst hnil; have Tp := hid (T10.out.trans tp); have HTp := hid (HT.out.trans tp); clear hab tp pg)
            have T1q := hid (Tp.out.alloc (.cells #[.slice qa 0 qc] 29))
            have HT1 := hid (HTp.out.alloc (.cells #[.slice qa 0 qc] 29))
            generalize Wp.alloc (.cells #[.slice qa 0 qc] 29) = Wq at T1q HT1 ⊢
            go_upto_region 26 with (go_at_call 16; refine (split_w htn WG.out _ (HE.out.below (T1q.out.below (Nat.le_refl _) (by simp)))).mono ?_; rintro r Ws ⟨sv, sp, sf, rfl, hsf, ts⟩; have HTs := hid (HT1.out.trans ts); have HSF := hid hsf; clear hsf ts)
            rcases HSF.out with e | ⟨e1, e2⟩
            · subst e
              go_wp2_with fail
              go_roundw
              case rel => exact ⟨k + 1, by go_num, by omega, HTs.out⟩
              case measure => simp [intOf]; omega
            · subst e1 e2
              have her2 : (sf != 0) = true := by simpa using WG.out.e
              go_wp2_with fail
              go_roundw
              case rel => exact ⟨k + 1, by go_num, by omega, HTs.out⟩
              case measure => simp [intOf]; omega
        · go_wp2_with fail
          go_ret
          exact ⟨rfl, T10.out⟩
    · go_wp2_with (go_at_call 8; refine (HL.out _ (HS.out.tch T1.out)).mono ?_; rintro r W2 ⟨rfl, g2⟩; have T2 := hid (T1.out.trans g2.tch); clear g2)
      go_ret
      exact ⟨rfl, T2.out⟩
  · have hlf : lightB s = false := by simpa using hlb
    rw [hlf] at HL
    clear hlb hlf HPG
    go_wp2_with (go_at_call 8; refine (HL.out _ (HS.out.tch T1.out)).mono ?_; rintro r W2 ⟨rfl, g2⟩; have T2 := hid (T1.out.trans g2.tch); clear g2)
    go_ret
    exact ⟨rfl, T2.out⟩
end Go.Proofs.YtgegdelinckfoaaGreatDoor


/- ParseAny: the walk, where what is 1 of three. -/
set_option linter.unusedSimpArgs false
set_option linter.unusedVariables false
namespace Go.Proofs.YtgegdelinckfoaaGreatDoor
open Go.RowKit Go.Sort

set_option maxRecDepth 100000 in
set_option maxHeartbeats 16000000 in
theorem any_walkB (raw : ByteArray) (s : SmlM) (cut put what : Int) (w : World) (hE : Env w) (hK : Kinds w) (hW : WordsH w) (hs : SmlOk w s) (hr : raw.size ≤ maxLen) (hc : 0 ≤ cut ∧ cut ≤ 65535) (hp : 0 ≤ put ∧ put ≤ 255) (hw : 0 ≤ what ∧ what ≤ 255) (hw3 : what % 3 = 1) :
    Calls Tryz.prog 4 #[.string raw, .agg #[.int .u8 s.r, .bool s.bare, s.bv], .int .u16 cut, .int .u8 put, .int .u8 what] w fun r w' => r = .returned (.bool true) ∧ Tch [] w w' := by
  have hm : Tryz.prog.follows .mixedOrders = true := by kernel_rfl
  unfold maxLen at hr
  have HL := hid (fun W (h : SmlOk W s) => light_any s W h)
  have HPG := hid (fun W (hk : Kinds W) (h : SmlOk W s) hl => program_any s W hk h hl)
  obtain ⟨va, vc, hbv, _⟩ := hs.b.shape
  rw [hbv] at HL HPG
  rw [hbv]
  have HE := hid hE
  have HK := hid hK
  have HW := hid hW
  have HS := hid hs
  have t0 : Tch [] w (w.alloc (.cells #[.int .u8 s.r, .bool s.bare, .slice va s.bs.length vc] 24)) := (Tch.refl [] w).alloc _
  have T0 := hid t0
  clear hE hK hW t0 hs hbv
  go_enter Tryz.func4, Tryz.ntmps4
  go_upto_region 3 with (go_at_call 7; refine (awake_p _ (HE.out.below (T0.out.below (Nat.le_refl _) (by simp))) (HK.out.tch T0.out) (HW.out.tch T0.out (by simp))).mono ?_; rintro r W1 ⟨rfl, t1⟩; have T1 := hid (T0.out.trans t1); have z := t1.obj (heap_alloc_new w (.cells #[.int .u8 s.r, .bool s.bare, .slice va s.bs.length vc] 24)) (by simp); have Z := hid z; have z0 := cell_of_row _ _ 0 _ _ _ z; have z1 := cell_of_row _ _ 1 _ _ _ z; have z2 := cell_of_row _ _ 2 _ _ _ z; simp only [List.getElem?_toArray, List.getElem?_cons_zero, List.getElem?_cons_succ] at z0 z1 z2; clear t1 z)
  by_cases hlb : lightB s = true
  · rw [hlb] at HL
    have HPG := hid (fun W (hk : Kinds W) (h : SmlOk W s) => HPG.out W hk h hlb)
    have HLB := hid hlb
    clear hlb
    by_cases h200 : raw.size ≤ 200
    · go_upto_region 5 with (go_at_call 8; refine (HL.out _ (HS.out.tch T1.out)).mono ?_; rintro r W2 ⟨rfl, g2⟩; have T2 := hid (T1.out.trans g2.tch); have z := g2.tch.obj Z.out (by simp); have Z2 := hid z; have y0 := cell_of_row _ _ 0 _ _ _ z; have y1 := cell_of_row _ _ 1 _ _ _ z; have y2 := cell_of_row _ _ 2 _ _ _ z; simp only [List.getElem?_toArray, List.getElem?_cons_zero, List.getElem?_cons_succ] at y0 y1 y2; clear g2 z)
      have hnl := progA_len HLB.out
      have hne := txP_pos (progA_ne s)
      go_upto_region 6 with (first
        | (go_at_call 9; refine (HPG.out _ (HK.out.tch T2.out) (HS.out.tch T2.out)).mono ?_; rintro r W3 ⟨v, bp, bs, rfl, own, hab, g3⟩; obtain ⟨pa, pc, rfl⟩ := own.b.shape; have T3 := hid (T2.out.trans g3.tch); have PL := hid own.plp; have HAB := hid hab; clear own hab g3 y0 y1 y2)
        | (go_at_call 10; refine (tokens_p _ bs W3 PL.out (fun B hB => progA_64 HLB.out HS.out.lins _ (by rw [← HAB.out]; exact List.mem_map_of_mem hB)) (by rw [HAB.out]; omega)).mono ?_; rw [HAB.out]; rintro r W5 ⟨v5, rfl, s5, t5⟩; obtain ⟨bt5, of5, vc5, hv5⟩ := s5.s.ptr hne; obtain ⟨va5, vc6, hv6, hc5, hc6⟩ := s5.shapeC; subst hv5; cases hv6; unfold maxLen at hc6; have T5 := hid (T3.out.trans t5); have hsz := T3.out.size; have S5 := hid (show SS w.heap.size _ _ _ from ⟨s5.s, fun x hx => Nat.le_trans hsz (s5.o x hx)⟩); clear s5 t5 hsz))
      have q1 : IntKind.i64.wrap cut = cut := by rw [IntKind.wrap_i64]; omega
      obtain ⟨kn, hkn⟩ : ∃ kn : Nat, cut.tmod ((txP (progA s)).length : Int) = (kn : Int) := ⟨(cut.tmod ((txP (progA s)).length : Int)).toNat, by rw [Int.toNat_of_nonneg (Int.tmod_nonneg _ hc.1)]⟩
      have hkl : kn < (txP (progA s)).length := by
        have := Int.tmod_lt_of_pos cut (b := ((txP (progA s)).length : Int)) (by omega)
        omega
      have q3 : IntKind.i64.wrap (kn : Int) = (kn : Int) := by rw [IntKind.wrap_i64]; omega
      have HTO := hid (toky_prog HLB.out HS.out.lins)
      clear PL
      generalize txP (progA s) = TP at *
      have e17 : put.tmod 17 = put % 17 := Int.tmod_eq_emod_of_nonneg (by omega)
      have f17 : IntKind.u8.wrap (put % 17) = put % 17 := by rw [IntKind.wrap_u8]; omega
      have b17 : 0 ≤ put % 17 := by omega
      have c17_ : put % 17 < 17 := by omega
      have HX := hid (x17_cell W5 put)
      have hx17 := HX.out
      go_upto_region 8 with fail
      have T6 := hid (T5.out.alloc (.cells #[.string ⟨#[64, 51]⟩, .string ⟨#[58]⟩, .string ⟨#[10]⟩, .string ⟨#[37, 50]⟩, .string ⟨#[61]⟩, .string ⟨#[55]⟩, .string ⟨#[97, 100, 100]⟩, .string ⟨#[44]⟩, .string ⟨#[106, 117, 109, 112]⟩, .string ⟨#[98, 114]⟩, .string ⟨#[36, 49]⟩, .string ⟨#[105, 110]⟩, .string ⟨#[111, 117, 116]⟩, .string ⟨#[114, 101, 116]⟩, .string ⟨#[37, 49, 48, 48, 48, 48, 48]⟩, .string ⟨#[64, 49, 48, 48, 48, 48, 48]⟩, .string ⟨#[36, 49, 54]⟩] 9))
      have S6 := hid (S5.out.tch ((Tch.refl [] W5).alloc (.cells #[.string ⟨#[64, 51]⟩, .string ⟨#[58]⟩, .string ⟨#[10]⟩, .string ⟨#[37, 50]⟩, .string ⟨#[61]⟩, .string ⟨#[55]⟩, .string ⟨#[97, 100, 100]⟩, .string ⟨#[44]⟩, .string ⟨#[106, 117, 109, 112]⟩, .string ⟨#[98, 114]⟩, .string ⟨#[36, 49]⟩, .string ⟨#[105, 110]⟩, .string ⟨#[111, 117, 116]⟩, .string ⟨#[114, 101, 116]⟩, .string ⟨#[37, 49, 48, 48, 48, 48, 48]⟩, .string ⟨#[64, 49, 48, 48, 48, 48, 48]⟩, .string ⟨#[36, 49, 54]⟩] 9)) (by simp))
      generalize W5.alloc (.cells #[.string ⟨#[64, 51]⟩, .string ⟨#[58]⟩, .string ⟨#[10]⟩, .string ⟨#[37, 50]⟩, .string ⟨#[61]⟩, .string ⟨#[55]⟩, .string ⟨#[97, 100, 100]⟩, .string ⟨#[44]⟩, .string ⟨#[106, 117, 109, 112]⟩, .string ⟨#[98, 114]⟩, .string ⟨#[36, 49]⟩, .string ⟨#[105, 110]⟩, .string ⟨#[111, 117, 116]⟩, .string ⟨#[114, 101, 116]⟩, .string ⟨#[37, 49, 48, 48, 48, 48, 48]⟩, .string ⟨#[64, 49, 48, 48, 48, 48, 48]⟩, .string ⟨#[36, 49, 54]⟩] 9) = W6 at T6 S6 ⊢
      clear HX hx17 S5
      have HTX := hid (toky_x put)
      generalize xOf put = X at *
      have e3 : what.tmod 3 = what % 3 := Int.tmod_eq_emod_of_nonneg (by omega)
      have f3 : IntKind.u8.wrap 1 = 1 := by decide
      rw [hw3] at e3
      clear hw3
      obtain ⟨kp, hkp⟩ : ∃ kp, kp = kn + 1 := ⟨_, rfl⟩
      have q4 : IntKind.i64.wrap ((kn : Int) + 1) = (kp : Int) := by rw [IntKind.wrap_i64]; omega
      have hkp1 : kp ≤ TP.length := by omega
      have hkp2 : kp ≤ vc5 := by omega
      have hkc : kn ≤ vc5 := by omega
      have hkd : kn ≤ TP.length := by omega
      have hlk : (TP.take kn).length = kn := by rw [List.length_take]; omega
      have hlk1 : (TP.take kn ++ [X]).length = kn + 1 := by rw [List.length_append, hlk]; rfl
      have HKP := hid hkp
      have hvn : ¬ vc5 = kn := by omega
      obtain ⟨oz, hoz, hoz2⟩ : ∃ oz, (if vc5 = kp then some (⟨bt5, of5, none⟩ : Addr) else some ⟨bt5, of5 + kp, none⟩) = some ⟨bt5, oz, none⟩ ∧ (TP.length - kp = 0 ∨ oz = of5 + kp) := by
        by_cases h : vc5 = kp
        · exact ⟨of5, by rw [if_pos h], .inl (by omega)⟩
        · exact ⟨of5 + kp, by rw [if_neg h], .inr rfl⟩
      have HOZ := hid hoz2
      clear hoz2 hkp
      have HLK := hid hlk
      have HLK1 := hid hlk1
      go_upto_region 14 with fail
      refine wp_region_noPanic ?_
      refine wp_region_any hm ?_
      have TT := hid T6.out.drew
      have SB := hid (S6.out.tch ((Tch.refl [] W6).drew) (by simp))
      show wpAny _ _ _ _ _ _ _ W6.drew
      generalize W6.drew = Wk at TT SB ⊢
      refine wpAny_take (i := 1) (oi := { dst := some 72, op := Go.Op.move (Go.Operand.tmp 11), type := 31, pos := "law.go:138", after := #[], guard := none }) (v := ?_) rfl (by kernel_rfl) (by kernel_rfl) (by kernel_rfl) (fun _ _ _ h => h) (Or.inl ⟨by rfl, ?_⟩) ?_
      rotate_left
      (intro w; go_simp; try (with_reducible rfl))
      simp only [Act.put, List.setIfInBounds_toArray, List.set_cons_zero, List.set_cons_succ]
      refine wpAny_take (i := 2) (oi := { dst := some 73, op := Go.Op.move (Go.Operand.tmp 12), type := 3, pos := "law.go:138", after := #[], guard := none }) (v := ?_) rfl (by kernel_rfl) (by kernel_rfl) (by kernel_rfl) (fun _ _ _ h => h) (Or.inl ⟨by rfl, ?_⟩) ?_
      rotate_left
      (intro w; go_simp; try (with_reducible rfl))
      simp only [Act.put, List.setIfInBounds_toArray, List.set_cons_zero, List.set_cons_succ]
      refine wpAny_take (i := 3) (oi := { dst := some 74, op := Go.Op.slice 31 (Go.Operand.tmp 72) none (some (Go.Operand.tmp 73)) none, type := 31, pos := "law.go:138", after := #[{ on := 1, ground := Go.Ground.data }, { on := 2, ground := Go.Ground.data }], guard := none }) (v := ?_) rfl (by kernel_rfl) (by kernel_rfl) (by kernel_rfl) (fun _ _ _ h => h) (Or.inl ⟨by rfl, ?_⟩) ?_
      rotate_left
      (intro w; go_simp; try (with_reducible rfl))
      simp only [Act.put, List.setIfInBounds_toArray, List.set_cons_zero, List.set_cons_succ]
      refine wpAny_take (i := 5) (oi := { dst := some 76, op := Go.Op.move (Go.Operand.tmp 13), type := 9, pos := "law.go:138", after := #[], guard := none }) (v := ?_) rfl (by kernel_rfl) (by kernel_rfl) (by kernel_rfl) (fun _ _ _ h => h) (Or.inl ⟨by rfl, ?_⟩) ?_
      rotate_left
      (intro w; go_simp; try (with_reducible rfl))
      simp only [Act.put, List.setIfInBounds_toArray, List.set_cons_zero, List.set_cons_succ]
      refine wpAny_take (i := 8) (oi := { dst := some 79, op := Go.Op.move (Go.Operand.tmp 11), type := 31, pos := "law.go:138", after := #[], guard := none }) (v := ?_) rfl (by kernel_rfl) (by kernel_rfl) (by kernel_rfl) (fun _ _ _ h => h) (Or.inl ⟨by rfl, ?_⟩) ?_
      rotate_left
      (intro w; go_simp; try (with_reducible rfl))
      simp only [Act.put, List.setIfInBounds_toArray, List.set_cons_zero, List.set_cons_succ]
      refine wpAny_take (i := 9) (oi := { dst := some 80, op := Go.Op.move (Go.Operand.tmp 12), type := 3, pos := "law.go:138", after := #[], guard := none }) (v := ?_) rfl (by kernel_rfl) (by kernel_rfl) (by kernel_rfl) (fun _ _ _ h => h) (Or.inl ⟨by rfl, ?_⟩) ?_
      rotate_left
      (intro w; go_simp; try (with_reducible rfl))
      simp only [Act.put, List.setIfInBounds_toArray, List.set_cons_zero, List.set_cons_succ]
      refine wpAny_take (i := 10) (oi := { dst := some 81, op := Go.Op.slice 31 (Go.Operand.tmp 79) (some (Go.Operand.tmp 80)) none none, type := 31, pos := "law.go:138", after := #[{ on := 8, ground := Go.Ground.data }, { on := 9, ground := Go.Ground.data }], guard := none }) (v := ?_) rfl (by kernel_rfl) (by kernel_rfl) (by kernel_rfl) (fun _ _ _ h => h) (Or.inl ⟨by rfl, ?_⟩) ?_
      rotate_left
      (intro w; go_simp; try (with_reducible rfl))
      simp only [Act.put, List.setIfInBounds_toArray, List.set_cons_zero, List.set_cons_succ]
      refine wpAny_ready (rs := [0, 6]) (by kernel_rfl) (by simp) (AllReady.cons (o := { dst := some 71, op := Go.Op.buildSlice 31 0 #[], type := 31, pos := "law.go:138", after := #[], guard := none }) rfl (fun K hK => ?_) (AllReady.cons (o := { dst := some 77, op := Go.Op.buildSlice 31 1 #[(0, Go.Operand.tmp 76)], type := 31, pos := "law.go:138", after := #[{ on := 5, ground := Go.Ground.data }], guard := none }) rfl (fun K hK => ?_) AllReady.nil))
      · go_simp
        refine hK _ _ ?_
        clear hK K
        try simp only [Act.put, List.setIfInBounds_toArray, List.set_cons_zero, List.set_cons_succ]
        have S0 := hid (ss_new (n := w.heap.size) Wk Wk.heap.size rfl TT.out.size [] (by simp))
        have nb0 : bt5 < Wk.heap.size := SB.out.s.lt bt5 (by simp [blks])
        replace SB := hid (SB.out.tch ((Tch.refl [] Wk).alloc (.cells #[] 9)) (by simp))
        replace TT := hid (TT.out.alloc (.cells #[] 9))
        have zb0 : Wk.heap.size < (Wk.alloc (.cells #[] 9)).heap.size := by simp
        replace S0 := hid (show SS w.heap.size (.slice (some ⟨Wk.heap.size, 0, none⟩) 0 0) [] (Wk.alloc (.cells #[] 9)) from S0.out)
        generalize Wk.alloc (.cells #[] 9) = W0 at S0 SB TT zb0 ⊢
        generalize Wk.heap.size = b0 at S0 nb0 zb0 ⊢
        obtain ⟨Wk, rfl⟩ : ∃ W : World, W = W0 := ⟨_, rfl⟩
        refine wpAny_ready (rs := [4, 6]) (by kernel_rfl) (by simp) (AllReady.cons (o := { dst := some 75, op := Go.Op.call { callee := Go.Callee.builtin Go.Builtin.append, args := #[Go.Operand.tmp 71, Go.Operand.tmp 74], argTypes := #[31, 31] }, type := 31, pos := "law.go:138", after := #[{ on := 0, ground := Go.Ground.data }, { on := 3, ground := Go.Ground.data }], guard := none }) rfl (fun K hK => ?_) (AllReady.cons (o := { dst := some 77, op := Go.Op.buildSlice 31 1 #[(0, Go.Operand.tmp 76)], type := 31, pos := "law.go:138", after := #[{ on := 5, ground := Go.Ground.data }], guard := none }) rfl (fun K hK => ?_) AllReady.nil))
        · refine step_append_t rfl _ _ 31 rfl Tryz.underlying31 info_str rfl (by decide) (.slice (some ⟨b0, 0, none⟩) 0 0) rfl S0.out.s (⟨bt5, of5, none⟩) (kn) (vc5) rfl (svs (TP.take kn)) (by rw [svs_len, hlk]) ((SB.out.take hne kn (by omega)).news.2) (svs_one _) (by simp; omega) ?_
          intro v8 w8 hs8 ht8 hd8 hb8
          rw [show ([] : List (List UInt8)).length + kn = kn by simp, show svs [] ++ svs (TP.take kn) = svs (TP.take kn) from rfl] at hs8
          obtain ⟨ya, yc, hv8⟩ := hs8.shape
          subst hv8
          have S8 := hid (show SS w.heap.size (.slice ya kn yc) (TP.take kn) w8 from ⟨by rw [hlk]; exact hs8, fun x hx => by rcases hb8 x hx with h | h; exact S0.out.o x h; exact Nat.le_trans TT.out.size h⟩)
          have N8 := hid (show ∀ b ∈ blks (.slice ya kn yc), ¬ b = bt5 from fun b hb e => by rcases hb8 b hb with h | h; simp [blks] at h; omega; have := SB.out.s.lt bt5 (by simp [blks]); omega)
          replace TT := hid (show Tch [] w w8 from TT.out.trans2 ht8 (fun x hx => .inr (S0.out.o x hx)))
          replace SB := hid (show SS w.heap.size (.slice (some ⟨bt5, of5, none⟩) TP.length vc5) TP w8 from ⟨SB.out.s.kept ht8 (fun b hb hm => by simp [blks] at hb hm; omega), SB.out.o⟩)
          clear hs8 ht8 hd8 hb8
          refine hK _ _ ?_
          clear hK K
          try simp only [Act.put, List.setIfInBounds_toArray, List.set_cons_zero, List.set_cons_succ]
          obtain ⟨Wk, rfl⟩ : ∃ W : World, W = w8 := ⟨_, rfl⟩
          refine wpAny_ready (rs := [6]) (by kernel_rfl) (by simp) (AllReady.cons (o := { dst := some 77, op := Go.Op.buildSlice 31 1 #[(0, Go.Operand.tmp 76)], type := 31, pos := "law.go:138", after := #[{ on := 5, ground := Go.Ground.data }], guard := none }) rfl (fun K hK => ?_) AllReady.nil)
          go_simp
          refine hK _ _ ?_
          clear hK K
          try simp only [Act.put, List.setIfInBounds_toArray, List.set_cons_zero, List.set_cons_succ]
          have SX := hid (show SS w.heap.size (.slice (some ⟨Wk.heap.size, 0, none⟩) 1 1) [X] (Wk.alloc (.cells #[.string (bytesOf X)] 9)) from ss_new (n := w.heap.size) Wk Wk.heap.size rfl TT.out.size [X] (by simp))
          replace SB := hid (SB.out.tch ((Tch.refl [] Wk).alloc (.cells #[.string (bytesOf X)] 9)) (by simp))
          replace TT := hid (TT.out.alloc (.cells #[.string (bytesOf X)] 9))
          replace S8 := hid (S8.out.tch ((Tch.refl [] Wk).alloc (.cells #[.string (bytesOf X)] 9)) (by simp))
          generalize Wk.alloc (.cells #[.string (bytesOf X)] 9) = W0 at SX SB TT S8 ⊢
          generalize Wk.heap.size = bx at SX ⊢
          obtain ⟨Wk, rfl⟩ : ∃ W : World, W = W0 := ⟨_, rfl⟩
          refine wpAny_ready (rs := [7]) (by kernel_rfl) (by simp) (AllReady.cons (o := { dst := some 78, op := Go.Op.call { callee := Go.Callee.builtin Go.Builtin.append, args := #[Go.Operand.tmp 75, Go.Operand.tmp 77], argTypes := #[31, 31] }, type := 31, pos := "law.go:138", after := #[{ on := 4, ground := Go.Ground.data }, { on := 6, ground := Go.Ground.data }, { on := 4, ground := Go.Ground.chain }], guard := none }) rfl (fun K hK => ?_) AllReady.nil)
          refine step_append_t rfl _ _ 31 rfl Tryz.underlying31 info_str rfl (by decide) (.slice ya kn yc) rfl S8.out.s (⟨bx, 0, none⟩) (1) (1) rfl (svs ([X])) (by rw [svs_len]; rfl) (SX.out.news.2) (svs_one _) (by rw [hlk]; omega) ?_
          intro v9 w9 hs9 ht9 hd9 hb9
          rw [hlk] at hs9
          obtain ⟨ua, uc, hv9⟩ := hs9.shape
          subst hv9
          have S9 := hid (show SS w.heap.size (.slice ua (kn + 1) uc) (TP.take kn ++ [X]) w9 from ⟨by rw [List.length_append, hlk, ← svs_app]; exact hs9, fun x hx => by rcases hb9 x hx with h | h; exact S8.out.o x h; exact Nat.le_trans TT.out.size h⟩)
          replace TT := hid (show Tch [] w w9 from TT.out.trans2 ht9 (fun x hx => .inr (S8.out.o x hx)))
          replace SB := hid (show SS w.heap.size (.slice (some ⟨bt5, of5, none⟩) TP.length vc5) TP w9 from ⟨SB.out.s.kept ht9 (fun b hb hm => by simp [blks] at hb; subst hb; exact N8.out _ hm rfl), SB.out.o⟩)
          clear hs9 ht9 hd9 hb9 SX S8 N8
          refine hK _ _ ?_
          clear hK K
          try simp only [Act.put, List.setIfInBounds_toArray, List.set_cons_zero, List.set_cons_succ]
          obtain ⟨Wk, rfl⟩ : ∃ W : World, W = w9 := ⟨_, rfl⟩
          refine wpAny_ready (rs := [11]) (by kernel_rfl) (by simp) (AllReady.cons (o := { dst := some 82, op := Go.Op.call { callee := Go.Callee.builtin Go.Builtin.append, args := #[Go.Operand.tmp 78, Go.Operand.tmp 81], argTypes := #[31, 31] }, type := 31, pos := "law.go:138", after := #[{ on := 7, ground := Go.Ground.data }, { on := 10, ground := Go.Ground.data }, { on := 7, ground := Go.Ground.chain }], guard := none }) rfl (fun K hK => ?_) AllReady.nil)
          refine step_append_t rfl _ _ 31 rfl Tryz.underlying31 info_str rfl (by decide) (.slice ua (kn + 1) uc) rfl S9.out.s (⟨bt5, of5 + kn, none⟩) (TP.length - kn) (vc5 - kn) rfl (svs (TP.drop kn)) (by rw [svs_len, List.length_drop]) ((SB.out.drop' kn (by omega)).news.2) (svs_one _) (by rw [hlk1]; omega) ?_
          intro v5 wc hs5 ht5 hd5 hb5
          rw [hlk1] at hs5
          obtain ⟨xa, xc, hv5⟩ := hs5.shape
          subst hv5
          have HAS := hid (show AnS w (.slice xa ((kn + 1) + (TP.length - kn)) xc) ((TP.take kn ++ [X]) ++ TP.drop kn) wc from ⟨⟨by rw [List.length_append, hlk1, List.length_drop, ← svs_app]; exact hs5, fun x hx => by rcases hb5 x hx with h | h; exact S9.out.o x h; exact Nat.le_trans TT.out.size h⟩, TT.out.trans2 ht5 (fun x hx => .inr (S9.out.o x hx)), ((HTO.out.take kn).app HTX.out).app (HTO.out.drop kn), by rw [List.length_append, hlk1, List.length_drop]; have := HKP.out; omega⟩)
          clear hs5 ht5 hd5 hb5
          refine hK _ _ ?_
          clear hK K
          try simp only [Act.put, List.setIfInBounds_toArray, List.set_cons_zero, List.set_cons_succ]
          refine wpAny_take (i := 12) (oi := { dst := some 11, op := Go.Op.assign (Go.Operand.tmp 82), type := 31, pos := "law.go:138", after := #[{ on := 11, ground := Go.Ground.data }, { on := 11, ground := Go.Ground.chain }, { on := 0, ground := Go.Ground.phase }, { on := 1, ground := Go.Ground.phase }, { on := 2, ground := Go.Ground.phase }, { on := 3, ground := Go.Ground.phase }, { on := 4, ground := Go.Ground.phase }, { on := 5, ground := Go.Ground.phase }, { on := 6, ground := Go.Ground.phase }, { on := 7, ground := Go.Ground.phase }, { on := 8, ground := Go.Ground.phase }, { on := 9, ground := Go.Ground.phase }, { on := 10, ground := Go.Ground.phase }, { on := 11, ground := Go.Ground.phase }], guard := none }) (v := ?_) rfl (by kernel_rfl) (by kernel_rfl) (by kernel_rfl) (fun _ _ _ h => h) (Or.inl ⟨by rfl, ?_⟩) ?_
          rotate_left
          (intro w; go_simp; try (with_reducible rfl))
          simp only [Act.put, List.setIfInBounds_toArray, List.set_cons_zero, List.set_cons_succ]
          refine wpAny_done (by kernel_rfl) (NoPanic.normal ?_) _
          go_simp
          go_upto_region 15 with fail
          generalize (TP.take kn ++ [X]) ++ TP.drop kn = L at HAS
          generalize (kn + 1) + (TP.length - kn) = nL at HAS ⊢
          clear HKP HLK HLK1 hvn HOZ hoz q4 hkp1 hkp2 hkc hkd hlk hlk1
          obtain ⟨sL, tL, kL_, nL⟩ := HAS.out
          have hTk := kL_.txt nL
          have hl3 := hTk.1
          have HT7 := hid tL
          have HTN := hid (text_nil (.slice xa _ xc) L _ wc sL (by omega))
          have st := bytes_size (txT L)
          have HTO2 := hid hTk.2
          clear HAS sL tL kL_ hTk hkl hkn q1 q3 e17 f17 b17 c17_ e3 f3 HTO HTX T6 S6 hne hnl hc5 hc6
          generalize bytesOf (txT L) = TXL at *
          have s4 : (⟨#[64, 48, 58, 10]⟩ : ByteArray).size = 4 := rfl
          have s5 : (⟨#[10, 116, 114, 97, 112]⟩ : ByteArray).size = 5 := rfl
          have s6 : ((⟨#[64, 48, 58, 10]⟩ : ByteArray) ++ raw).size = 4 + raw.size := by rw [ByteArray.size_append, s4]
          have s7 : (((⟨#[64, 48, 58, 10]⟩ : ByteArray) ++ raw) ++ (⟨#[10, 116, 114, 97, 112]⟩ : ByteArray)).size = 4 + raw.size + 5 := by rw [ByteArray.size_append, s6, s5]
          have HR3 := hid (raw_txt (s := ((⟨#[64, 48, 58, 10]⟩ : ByteArray) ++ raw) ++ (⟨#[10, 116, 114, 97, 112]⟩ : ByteArray)) (by omega))
          have HR1 := hid (raw_txt (s := raw) (by omega))
          have l6 : TXL.size ≤ 30000 := by omega
          clear st hl3
          go_wp2_with (go_at_call 12; refine HTN.out.mono ?_; rintro r W8 ⟨rfl, t8⟩; have T8 := hid (HT7.out.trans t8); clear t8)
          generalize hTX3 : ((⟨#[64, 48, 58, 10]⟩ : ByteArray) ++ raw) ++ (⟨#[10, 116, 114, 97, 112]⟩ : ByteArray) = TX3 at *
          have M := hid (heap_alloc_new W8 (.cells #[.string raw, .string TXL, .string TX3] 9))
          have T9 := hid (T8.out.alloc (.cells #[.string raw, .string TXL, .string TX3] 9))
          generalize W8.alloc (.cells #[.string raw, .string TXL, .string TX3] 9) = W9 at M T9 ⊢
          generalize W8.heap.size = q9 at M ⊢
          clear hTX3 s4 s5 s6 s7
          go_loopw [15, 16, 17, 18, 19, 20, 21, 22, 23, 24, 91] (fun _ _ _ _ _ _ _ _ _ _ vi wr => ∃ k : Nat, vi = .int .i64 k ∧ k ≤ 3 ∧ Hid (Tch [] W9 wr)) (fun _ _ _ _ _ _ _ _ _ _ vi _ => 3 - (intOf vi).toNat)
          case atStart => exact ⟨0, rfl, by omega, Tch.refl _ _⟩
          case round =>
            obtain ⟨k, rfl, hk, HT⟩ := hrel
            have T10 := hid (T9.out.trans HT.out)
            by_cases hlt : k < 3
            · obtain ⟨tx, hcx, hok⟩ : ∃ tx, wr.cell? ⟨q9, k, none⟩ = some (.string tx) ∧ TxtOk tx := by
                have mo := HT.out.obj M.out (by simp)
                have hk3 : k = 0 ∨ k = 1 ∨ k = 2 := by omega
                rcases hk3 with rfl | rfl | rfl
                · exact ⟨raw, cell_of_row _ _ 0 _ _ _ mo, HR1.out⟩
                · exact ⟨TXL, cell_of_row _ _ 1 _ _ _ mo, HTO2.out⟩
                · exact ⟨TX3, cell_of_row _ _ 2 _ _ _ mo, HR3.out⟩
              have ltq : q9 < wr.heap.size := cell_lt hcx
              have htn := hok.n
              have HPA := hid (fun W => parse_any tx (by omega) W)
              rcases again_or hok with ⟨P, ag⟩ | ⟨pl, er, wg⟩
              · have AG := hid ag
                have HPB := hid (fun W => parse_any (bytesOf (txT (txP P))) (by rw [bytes_size]; have := ag.t; omega) W)
                clear ag hok
                go_upto_region 19 with (go_at_call 11; refine (HPA.out _ (HE.out.below (T10.out.below (Nat.le_refl _) (by simp))) (HK.out.tch T10.out) (HW.out.tch T10.out (by simp))).mono ?_; rintro r Wp ⟨qa, qc, cs, rfl, hab, tp, pg⟩; rw [AG.out.r] at hab ⊢; have Tp := hid (T10.out.trans tp); have HTp := hid (HT.out.trans tp); have PG := hid pg.plp; have HAC := hid hab; clear hab tp pg)
                have M1 := hid (heap_alloc_new Wp (.cells #[.slice qa cs.length qc] 29))
                have T1q := hid (Tp.out.alloc (.cells #[.slice qa cs.length qc] 29))
                have HT1 := hid (HTp.out.alloc (.cells #[.slice qa cs.length qc] 29))
                have PG1 := hid (PG.out.tch ((Tch.refl [] Wp).alloc (.cells #[.slice qa cs.length qc] 29)))
                generalize Wp.alloc (.cells #[.slice qa cs.length qc] 29) = Wq at M1 T1q HT1 PG1 ⊢
                have lm1 := lt_of_obj M1.out
                have m1 : Wq.cell? ⟨Wp.heap.size, 0, none⟩ = some (.slice qa cs.length qc) := cell_of_row _ _ 0 _ _ _ M1.out
                generalize Wp.heap.size = qp at M1 lm1 m1 ⊢
                have hpl := PG1.out.b.le
                unfold maxLen at hpl
                go_upto_region 21 with (first
                  | (go_at_call 10; refine (tokens_p _ cs _ PG1.out (fun B hB => blk_64 (AG.out.b _ (by rw [← HAC.out]; exact List.mem_map_of_mem hB))) (by rw [HAC.out]; have := AG.out.l; omega)).mono ?_; rw [HAC.out]; rintro r Wa ⟨v5, rfl, s5, t5⟩; obtain ⟨va5, vc5, rfl, hc5, hc6⟩ := s5.shapeC; have S5 := hid s5; have Ta := hid (T1q.out.trans t5); have HTa := hid (HT1.out.trans t5); have PGa := hid (PG1.out.tch t5); have M1a := hid (t5.obj M1.out (by simp)); clear s5 t5)
                  | (go_at_call 12; refine (text_nil _ _ _ _ S5.out (by have := AG.out.t; omega)).mono ?_; rintro r Wb ⟨rfl, t6⟩; have Tb := hid (Ta.out.trans t6); have HTb := hid (HTa.out.trans t6); have PGb := hid (PGa.out.tch t6); have M1b := hid (t6.obj M1a.out (by simp)); clear t6)
                  | (go_at_call 11; refine (HPB.out _ (HE.out.below (Tb.out.below (Nat.le_refl _) (by simp))) (HK.out.tch Tb.out) (HW.out.tch Tb.out (by simp))).mono ?_; rintro r Wd ⟨ra, rc, ds, rfl, hab, t7, pg⟩; rw [AG.out.a] at hab ⊢; have Td := hid (Tb.out.trans t7); have HTd := hid (HTb.out.trans t7); have PGd := hid (PGb.out.tch t7); have M1d := hid (t7.obj M1b.out (by simp)); have PH := hid pg.plp; have HAD := hid hab; clear hab t7 pg))
                have M2 := hid (heap_alloc_new Wd (.cells #[.slice ra ds.length rc] 29))
                have M1f := hid (((Tch.refl [] Wd).alloc (.cells #[.slice ra ds.length rc] 29)).obj M1d.out (by simp))
                have Tf := hid (Td.out.alloc (.cells #[.slice ra ds.length rc] 29))
                have HTf := hid (HTd.out.alloc (.cells #[.slice ra ds.length rc] 29))
                have PGf := hid (PGd.out.tch ((Tch.refl [] Wd).alloc (.cells #[.slice ra ds.length rc] 29)))
                have PHf := hid (PH.out.tch ((Tch.refl [] Wd).alloc (.cells #[.slice ra ds.length rc] 29)))
                generalize Wd.alloc (.cells #[.slice ra ds.length rc] 29) = Wf at M2 M1f Tf HTf PGf PHf ⊢
                generalize Wd.heap.size = qd at M2 ⊢
                have lf1 := lt_of_obj M1f.out
                have mf1 : Wf.cell? ⟨qp, 0, none⟩ = some (.slice qa cs.length qc) := cell_of_row _ _ 0 _ _ _ M1f.out
                have lf2 := lt_of_obj M2.out
                have mf2 : Wf.cell? ⟨qd, 0, none⟩ = some (.slice ra ds.length rc) := cell_of_row _ _ 0 _ _ _ M2.out
                clear m1 lm1
                have HCK := hid (check_p _ cs Wf (HK.out.tch Tf.out) PGf.out (by rw [HAC.out]; exact AG.out.b) (by rw [HAC.out]; exact AG.out.n))
                rw [HAC.out, AG.out.c] at HCK
                go_wp2_with (first
                  | (go_at_call 14; refine HCK.out.mono ?_; rintro r Wg ⟨rfl, t8⟩; have HTg := hid (HTf.out.trans t8); have PGg := hid (PGf.out.tch t8); have PHg := hid (PHf.out.tch t8); have Mg1 := hid (t8.obj M1f.out (by simp)); have Mg2 := hid (t8.obj M2.out (by simp)); have lg1 := lt_of_obj Mg1.out; have mg1 : Wg.cell? ⟨qp, 0, none⟩ = some (.slice qa cs.length qc) := cell_of_row _ _ 0 _ _ _ Mg1.out; clear t8)
                  | (go_at_call 15; refine (plain_true _ cs _ PGg.out).mono ?_; rintro r Wh ⟨rfl, t9⟩; have HTh := hid (HTg.out.trans t9); have PGh := hid (PGg.out.tch t9); have PHh := hid (PHg.out.tch t9); have Mh1 := hid (t9.obj Mg1.out (by simp)); have Mh2 := hid (t9.obj Mg2.out (by simp)); have lh1 := lt_of_obj Mh1.out; have mh1 : Wh.cell? ⟨qp, 0, none⟩ = some (.slice qa cs.length qc) := cell_of_row _ _ 0 _ _ _ Mh1.out; have lh2 := lt_of_obj Mh2.out; have mh2 : Wh.cell? ⟨qd, 0, none⟩ = some (.slice ra ds.length rc) := cell_of_row _ _ 0 _ _ _ Mh2.out; clear t9)
                  | (go_at_call 13; refine (same_true _ _ cs ds _ PGh.out PHh.out (HAC.out.trans HAD.out.symm)).mono ?_; rintro r Wk ⟨rfl, tk⟩; have HTk := hid (HTh.out.trans tk); clear tk))
                go_roundw
                case rel => exact ⟨k + 1, by go_num, by omega, HTk.out⟩
                case measure => simp [intOf]; omega
              · have WG := hid wg
                have her : (er == 0) = false := by simpa using wg.e
                have hp0 := wg.p.1
                have hp1 := wg.p.2
                clear wg hok
                go_upto_region 25 with (go_at_call 11; refine (HPA.out _ (HE.out.below (T10.out.below (Nat.le_refl _) (by simp))) (HK.out.tch T10.out) (HW.out.tch T10.out (by simp))).mono ?_; rintro r Wp ⟨qa, qc, cs, rfl, hab, tp, pg⟩; rw [WG.out.r] at hab ⊢; have hnil : cs = [] := List.map_eq_nil_iff.1 hab; subst hnil; have Tp := hid (T10.out.trans tp); have HTp := hid (HT.out.trans tp); clear hab tp pg)
                have T1q := hid (Tp.out.alloc (.cells #[.slice qa 0 qc] 29))
                have HT1 := hid (HTp.out.alloc (.cells #[.slice qa 0 qc] 29))
                generalize Wp.alloc (.cells #[.slice qa 0 qc] 29) = Wq at T1q HT1 ⊢
                go_upto_region 26 with (go_at_call 16; refine (split_w htn WG.out _ (HE.out.below (T1q.out.below (Nat.le_refl _) (by simp)))).mono ?_; rintro r Ws ⟨sv, sp, sf, rfl, hsf, ts⟩; have HTs := hid (HT1.out.trans ts); have HSF := hid hsf; clear hsf ts)
                rcases HSF.out with e | ⟨e1, e2⟩
                · subst e
                  go_wp2_with fail
                  go_roundw
                  case rel => exact ⟨k + 1, by go_num, by omega, HTs.out⟩
                  case measure => simp [intOf]; omega
                · subst e1 e2
                  have her2 : (sf != 0) = true := by simpa using WG.out.e
                  go_wp2_with fail
                  go_roundw
                  case rel => exact ⟨k + 1, by go_num, by omega, HTs.out⟩
                  case measure => simp [intOf]; omega
            · go_wp2_with fail
              go_ret
              exact ⟨rfl, T10.out⟩
        · go_simp
          refine hK _ _ ?_
          clear hK K
          try simp only [Act.put, List.setIfInBounds_toArray, List.set_cons_zero, List.set_cons_succ]
          have SX := hid (show SS w.heap.size (.slice (some ⟨Wk.heap.size, 0, none⟩) 1 1) [X] (Wk.alloc (.cells #[.string (bytesOf X)] 9)) from ss_new (n := w.heap.size) Wk Wk.heap.size rfl TT.out.size [X] (by simp))
          replace SB := hid (SB.out.tch ((Tch.refl [] Wk).alloc (.cells #[.string (bytesOf X)] 9)) (by simp))
          replace TT := hid (TT.out.alloc (.cells #[.string (bytesOf X)] 9))
          have nx0 : ¬ Wk.heap.size = b0 := by omega
          replace zb0 : b0 < (Wk.alloc (.cells #[.string (bytesOf X)] 9)).heap.size := by simp; omega
          replace S0 := hid (S0.out.tch ((Tch.refl [] Wk).alloc (.cells #[.string (bytesOf X)] 9)) (by simp))
          generalize Wk.alloc (.cells #[.string (bytesOf X)] 9) = W0 at SX SB TT S0 zb0 ⊢
          generalize Wk.heap.size = bx at SX nx0 ⊢
          obtain ⟨Wk, rfl⟩ : ∃ W : World, W = W0 := ⟨_, rfl⟩
          refine wpAny_ready (rs := [4]) (by kernel_rfl) (by simp) (AllReady.cons (o := { dst := some 75, op := Go.Op.call { callee := Go.Callee.builtin Go.Builtin.append, args := #[Go.Operand.tmp 71, Go.Operand.tmp 74], argTypes := #[31, 31] }, type := 31, pos := "law.go:138", after := #[{ on := 0, ground := Go.Ground.data }, { on := 3, ground := Go.Ground.data }], guard := none }) rfl (fun K hK => ?_) AllReady.nil)
          refine step_append_t rfl _ _ 31 rfl Tryz.underlying31 info_str rfl (by decide) (.slice (some ⟨b0, 0, none⟩) 0 0) rfl S0.out.s (⟨bt5, of5, none⟩) (kn) (vc5) rfl (svs (TP.take kn)) (by rw [svs_len, hlk]) ((SB.out.take hne kn (by omega)).news.2) (svs_one _) (by simp; omega) ?_
          intro v8 w8 hs8 ht8 hd8 hb8
          rw [show ([] : List (List UInt8)).length + kn = kn by simp, show svs [] ++ svs (TP.take kn) = svs (TP.take kn) from rfl] at hs8
          obtain ⟨ya, yc, hv8⟩ := hs8.shape
          subst hv8
          have S8 := hid (show SS w.heap.size (.slice ya kn yc) (TP.take kn) w8 from ⟨by rw [hlk]; exact hs8, fun x hx => by rcases hb8 x hx with h | h; exact S0.out.o x h; exact Nat.le_trans TT.out.size h⟩)
          have N8 := hid (show ∀ b ∈ blks (.slice ya kn yc), ¬ b = bt5 from fun b hb e => by rcases hb8 b hb with h | h; simp [blks] at h; omega; have := SB.out.s.lt bt5 (by simp [blks]); omega)
          replace SX := hid (show SS w.heap.size (.slice (some ⟨bx, 0, none⟩) 1 1) [X] w8 from ⟨SX.out.s.kept ht8 (fun b hb hm => by simp [blks] at hb hm; omega), SX.out.o⟩)
          replace TT := hid (show Tch [] w w8 from TT.out.trans2 ht8 (fun x hx => .inr (S0.out.o x hx)))
          replace SB := hid (show SS w.heap.size (.slice (some ⟨bt5, of5, none⟩) TP.length vc5) TP w8 from ⟨SB.out.s.kept ht8 (fun b hb hm => by simp [blks] at hb hm; omega), SB.out.o⟩)
          clear hs8 ht8 hd8 hb8
          refine hK _ _ ?_
          clear hK K
          try simp only [Act.put, List.setIfInBounds_toArray, List.set_cons_zero, List.set_cons_succ]
          obtain ⟨Wk, rfl⟩ : ∃ W : World, W = w8 := ⟨_, rfl⟩
          refine wpAny_ready (rs := [7]) (by kernel_rfl) (by simp) (AllReady.cons (o := { dst := some 78, op := Go.Op.call { callee := Go.Callee.builtin Go.Builtin.append, args := #[Go.Operand.tmp 75, Go.Operand.tmp 77], argTypes := #[31, 31] }, type := 31, pos := "law.go:138", after := #[{ on := 4, ground := Go.Ground.data }, { on := 6, ground := Go.Ground.data }, { on := 4, ground := Go.Ground.chain }], guard := none }) rfl (fun K hK => ?_) AllReady.nil)
          refine step_append_t rfl _ _ 31 rfl Tryz.underlying31 info_str rfl (by decide) (.slice ya kn yc) rfl S8.out.s (⟨bx, 0, none⟩) (1) (1) rfl (svs ([X])) (by rw [svs_len]; rfl) (SX.out.news.2) (svs_one _) (by rw [hlk]; omega) ?_
          intro v9 w9 hs9 ht9 hd9 hb9
          rw [hlk] at hs9
          obtain ⟨ua, uc, hv9⟩ := hs9.shape
          subst hv9
          have S9 := hid (show SS w.heap.size (.slice ua (kn + 1) uc) (TP.take kn ++ [X]) w9 from ⟨by rw [List.length_append, hlk, ← svs_app]; exact hs9, fun x hx => by rcases hb9 x hx with h | h; exact S8.out.o x h; exact Nat.le_trans TT.out.size h⟩)
          replace TT := hid (show Tch [] w w9 from TT.out.trans2 ht9 (fun x hx => .inr (S8.out.o x hx)))
          replace SB := hid (show SS w.heap.size (.slice (some ⟨bt5, of5, none⟩) TP.length vc5) TP w9 from ⟨SB.out.s.kept ht9 (fun b hb hm => by simp [blks] at hb; subst hb; exact N8.out _ hm rfl), SB.out.o⟩)
          clear hs9 ht9 hd9 hb9 SX S8 N8
          refine hK _ _ ?_
          clear hK K
          try simp only [Act.put, List.setIfInBounds_toArray, List.set_cons_zero, List.set_cons_succ]
          obtain ⟨Wk, rfl⟩ : ∃ W : World, W = w9 := ⟨_, rfl⟩
          refine wpAny_ready (rs := [11]) (by kernel_rfl) (by simp) (AllReady.cons (o := { dst := some 82, op := Go.Op.call { callee := Go.Callee.builtin Go.Builtin.append, args := #[Go.Operand.tmp 78, Go.Operand.tmp 81], argTypes := #[31, 31] }, type := 31, pos := "law.go:138", after := #[{ on := 7, ground := Go.Ground.data }, { on := 10, ground := Go.Ground.data }, { on := 7, ground := Go.Ground.chain }], guard := none }) rfl (fun K hK => ?_) AllReady.nil)
          refine step_append_t rfl _ _ 31 rfl Tryz.underlying31 info_str rfl (by decide) (.slice ua (kn + 1) uc) rfl S9.out.s (⟨bt5, of5 + kn, none⟩) (TP.length - kn) (vc5 - kn) rfl (svs (TP.drop kn)) (by rw [svs_len, List.length_drop]) ((SB.out.drop' kn (by omega)).news.2) (svs_one _) (by rw [hlk1]; omega) ?_
          intro v5 wc hs5 ht5 hd5 hb5
          rw [hlk1] at hs5
          obtain ⟨xa, xc, hv5⟩ := hs5.shape
          subst hv5
          have HAS := hid (show AnS w (.slice xa ((kn + 1) + (TP.length - kn)) xc) ((TP.take kn ++ [X]) ++ TP.drop kn) wc from ⟨⟨by rw [List.length_append, hlk1, List.length_drop, ← svs_app]; exact hs5, fun x hx => by rcases hb5 x hx with h | h; exact S9.out.o x h; exact Nat.le_trans TT.out.size h⟩, TT.out.trans2 ht5 (fun x hx => .inr (S9.out.o x hx)), ((HTO.out.take kn).app HTX.out).app (HTO.out.drop kn), by rw [List.length_append, hlk1, List.length_drop]; have := HKP.out; omega⟩)
          clear hs5 ht5 hd5 hb5
          refine hK _ _ ?_
          clear hK K
          try simp only [Act.put, List.setIfInBounds_toArray, List.set_cons_zero, List.set_cons_succ]
          refine wpAny_take (i := 12) (oi := { dst := some 11, op := Go.Op.assign (Go.Operand.tmp 82), type := 31, pos := "law.go:138", after := #[{ on := 11, ground := Go.Ground.data }, { on := 11, ground := Go.Ground.chain }, { on := 0, ground := Go.Ground.phase }, { on := 1, ground := Go.Ground.phase }, { on := 2, ground := Go.Ground.phase }, { on := 3, ground := Go.Ground.phase }, { on := 4, ground := Go.Ground.phase }, { on := 5, ground := Go.Ground.phase }, { on := 6, ground := Go.Ground.phase }, { on := 7, ground := Go.Ground.phase }, { on := 8, ground := Go.Ground.phase }, { on := 9, ground := Go.Ground.phase }, { on := 10, ground := Go.Ground.phase }, { on := 11, ground := Go.Ground.phase }], guard := none }) (v := ?_) rfl (by kernel_rfl) (by kernel_rfl) (by kernel_rfl) (fun _ _ _ h => h) (Or.inl ⟨by rfl, ?_⟩) ?_
          rotate_left
          (intro w; go_simp; try (with_reducible rfl))
          simp only [Act.put, List.setIfInBounds_toArray, List.set_cons_zero, List.set_cons_succ]
          refine wpAny_done (by kernel_rfl) (NoPanic.normal ?_) _
          go_simp
          go_upto_region 15 with fail
          generalize (TP.take kn ++ [X]) ++ TP.drop kn = L at HAS
          generalize (kn + 1) + (TP.length - kn) = nL at HAS ⊢
          clear HKP HLK HLK1 hvn HOZ hoz q4 hkp1 hkp2 hkc hkd hlk hlk1
          obtain ⟨sL, tL, kL_, nL⟩ := HAS.out
          have hTk := kL_.txt nL
          have hl3 := hTk.1
          have HT7 := hid tL
          have HTN := hid (text_nil (.slice xa _ xc) L _ wc sL (by omega))
          have st := bytes_size (txT L)
          have HTO2 := hid hTk.2
          clear HAS sL tL kL_ hTk hkl hkn q1 q3 e17 f17 b17 c17_ e3 f3 HTO HTX T6 S6 hne hnl hc5 hc6
          generalize bytesOf (txT L) = TXL at *
          have s4 : (⟨#[64, 48, 58, 10]⟩ : ByteArray).size = 4 := rfl
          have s5 : (⟨#[10, 116, 114, 97, 112]⟩ : ByteArray).size = 5 := rfl
          have s6 : ((⟨#[64, 48, 58, 10]⟩ : ByteArray) ++ raw).size = 4 + raw.size := by rw [ByteArray.size_append, s4]
          have s7 : (((⟨#[64, 48, 58, 10]⟩ : ByteArray) ++ raw) ++ (⟨#[10, 116, 114, 97, 112]⟩ : ByteArray)).size = 4 + raw.size + 5 := by rw [ByteArray.size_append, s6, s5]
          have HR3 := hid (raw_txt (s := ((⟨#[64, 48, 58, 10]⟩ : ByteArray) ++ raw) ++ (⟨#[10, 116, 114, 97, 112]⟩ : ByteArray)) (by omega))
          have HR1 := hid (raw_txt (s := raw) (by omega))
          have l6 : TXL.size ≤ 30000 := by omega
          clear st hl3
          go_wp2_with (go_at_call 12; refine HTN.out.mono ?_; rintro r W8 ⟨rfl, t8⟩; have T8 := hid (HT7.out.trans t8); clear t8)
          generalize hTX3 : ((⟨#[64, 48, 58, 10]⟩ : ByteArray) ++ raw) ++ (⟨#[10, 116, 114, 97, 112]⟩ : ByteArray) = TX3 at *
          have M := hid (heap_alloc_new W8 (.cells #[.string raw, .string TXL, .string TX3] 9))
          have T9 := hid (T8.out.alloc (.cells #[.string raw, .string TXL, .string TX3] 9))
          generalize W8.alloc (.cells #[.string raw, .string TXL, .string TX3] 9) = W9 at M T9 ⊢
          generalize W8.heap.size = q9 at M ⊢
          clear hTX3 s4 s5 s6 s7
          go_loopw [15, 16, 17, 18, 19, 20, 21, 22, 23, 24, 91] (fun _ _ _ _ _ _ _ _ _ _ vi wr => ∃ k : Nat, vi = .int .i64 k ∧ k ≤ 3 ∧ Hid (Tch [] W9 wr)) (fun _ _ _ _ _ _ _ _ _ _ vi _ => 3 - (intOf vi).toNat)
          case atStart => exact ⟨0, rfl, by omega, Tch.refl _ _⟩
          case round =>
            obtain ⟨k, rfl, hk, HT⟩ := hrel
            have T10 := hid (T9.out.trans HT.out)
            by_cases hlt : k < 3
            · obtain ⟨tx, hcx, hok⟩ : ∃ tx, wr.cell? ⟨q9, k, none⟩ = some (.string tx) ∧ TxtOk tx := by
                have mo := HT.out.obj M.out (by simp)
                have hk3 : k = 0 ∨ k = 1 ∨ k = 2 := by omega
                rcases hk3 with rfl | rfl | rfl
                · exact ⟨raw, cell_of_row _ _ 0 _ _ _ mo, HR1.out⟩
                · exact ⟨TXL, cell_of_row _ _ 1 _ _ _ mo, HTO2.out⟩
                · exact ⟨TX3, cell_of_row _ _ 2 _ _ _ mo, HR3.out⟩
              have ltq : q9 < wr.heap.size := cell_lt hcx
              have htn := hok.n
              have HPA := hid (fun W => parse_any tx (by omega) W)
              rcases again_or hok with ⟨P, ag⟩ | ⟨pl, er, wg⟩
              · have AG := hid ag
                have HPB := hid (fun W => parse_any (bytesOf (txT (txP P))) (by rw [bytes_size]; have := ag.t; omega) W)
                clear ag hok
                go_upto_region 19 with (go_at_call 11; refine (HPA.out _ (HE.out.below (T10.out.below (Nat.le_refl _) (by simp))) (HK.out.tch T10.out) (HW.out.tch T10.out (by simp))).mono ?_; rintro r Wp ⟨qa, qc, cs, rfl, hab, tp, pg⟩; rw [AG.out.r] at hab ⊢; have Tp := hid (T10.out.trans tp); have HTp := hid (HT.out.trans tp); have PG := hid pg.plp; have HAC := hid hab; clear hab tp pg)
                have M1 := hid (heap_alloc_new Wp (.cells #[.slice qa cs.length qc] 29))
                have T1q := hid (Tp.out.alloc (.cells #[.slice qa cs.length qc] 29))
                have HT1 := hid (HTp.out.alloc (.cells #[.slice qa cs.length qc] 29))
                have PG1 := hid (PG.out.tch ((Tch.refl [] Wp).alloc (.cells #[.slice qa cs.length qc] 29)))
                generalize Wp.alloc (.cells #[.slice qa cs.length qc] 29) = Wq at M1 T1q HT1 PG1 ⊢
                have lm1 := lt_of_obj M1.out
                have m1 : Wq.cell? ⟨Wp.heap.size, 0, none⟩ = some (.slice qa cs.length qc) := cell_of_row _ _ 0 _ _ _ M1.out
                generalize Wp.heap.size = qp at M1 lm1 m1 ⊢
                have hpl := PG1.out.b.le
                unfold maxLen at hpl
                go_upto_region 21 with (first
                  | (go_at_call 10; refine (tokens_p _ cs _ PG1.out (fun B hB => blk_64 (AG.out.b _ (by rw [← HAC.out]; exact List.mem_map_of_mem hB))) (by rw [HAC.out]; have := AG.out.l; omega)).mono ?_; rw [HAC.out]; rintro r Wa ⟨v5, rfl, s5, t5⟩; obtain ⟨va5, vc5, rfl, hc5, hc6⟩ := s5.shapeC; have S5 := hid s5; have Ta := hid (T1q.out.trans t5); have HTa := hid (HT1.out.trans t5); have PGa := hid (PG1.out.tch t5); have M1a := hid (t5.obj M1.out (by simp)); clear s5 t5)
                  | (go_at_call 12; refine (text_nil _ _ _ _ S5.out (by have := AG.out.t; omega)).mono ?_; rintro r Wb ⟨rfl, t6⟩; have Tb := hid (Ta.out.trans t6); have HTb := hid (HTa.out.trans t6); have PGb := hid (PGa.out.tch t6); have M1b := hid (t6.obj M1a.out (by simp)); clear t6)
                  | (go_at_call 11; refine (HPB.out _ (HE.out.below (Tb.out.below (Nat.le_refl _) (by simp))) (HK.out.tch Tb.out) (HW.out.tch Tb.out (by simp))).mono ?_; rintro r Wd ⟨ra, rc, ds, rfl, hab, t7, pg⟩; rw [AG.out.a] at hab ⊢; have Td := hid (Tb.out.trans t7); have HTd := hid (HTb.out.trans t7); have PGd := hid (PGb.out.tch t7); have M1d := hid (t7.obj M1b.out (by simp)); have PH := hid pg.plp; have HAD := hid hab; clear hab t7 pg))
                have M2 := hid (heap_alloc_new Wd (.cells #[.slice ra ds.length rc] 29))
                have M1f := hid (((Tch.refl [] Wd).alloc (.cells #[.slice ra ds.length rc] 29)).obj M1d.out (by simp))
                have Tf := hid (Td.out.alloc (.cells #[.slice ra ds.length rc] 29))
                have HTf := hid (HTd.out.alloc (.cells #[.slice ra ds.length rc] 29))
                have PGf := hid (PGd.out.tch ((Tch.refl [] Wd).alloc (.cells #[.slice ra ds.length rc] 29)))
                have PHf := hid (PH.out.tch ((Tch.refl [] Wd).alloc (.cells #[.slice ra ds.length rc] 29)))
                generalize Wd.alloc (.cells #[.slice ra ds.length rc] 29) = Wf at M2 M1f Tf HTf PGf PHf ⊢
                generalize Wd.heap.size = qd at M2 ⊢
                have lf1 := lt_of_obj M1f.out
                have mf1 : Wf.cell? ⟨qp, 0, none⟩ = some (.slice qa cs.length qc) := cell_of_row _ _ 0 _ _ _ M1f.out
                have lf2 := lt_of_obj M2.out
                have mf2 : Wf.cell? ⟨qd, 0, none⟩ = some (.slice ra ds.length rc) := cell_of_row _ _ 0 _ _ _ M2.out
                clear m1 lm1
                have HCK := hid (check_p _ cs Wf (HK.out.tch Tf.out) PGf.out (by rw [HAC.out]; exact AG.out.b) (by rw [HAC.out]; exact AG.out.n))
                rw [HAC.out, AG.out.c] at HCK
                go_wp2_with (first
                  | (go_at_call 14; refine HCK.out.mono ?_; rintro r Wg ⟨rfl, t8⟩; have HTg := hid (HTf.out.trans t8); have PGg := hid (PGf.out.tch t8); have PHg := hid (PHf.out.tch t8); have Mg1 := hid (t8.obj M1f.out (by simp)); have Mg2 := hid (t8.obj M2.out (by simp)); have lg1 := lt_of_obj Mg1.out; have mg1 : Wg.cell? ⟨qp, 0, none⟩ = some (.slice qa cs.length qc) := cell_of_row _ _ 0 _ _ _ Mg1.out; clear t8)
                  | (go_at_call 15; refine (plain_true _ cs _ PGg.out).mono ?_; rintro r Wh ⟨rfl, t9⟩; have HTh := hid (HTg.out.trans t9); have PGh := hid (PGg.out.tch t9); have PHh := hid (PHg.out.tch t9); have Mh1 := hid (t9.obj Mg1.out (by simp)); have Mh2 := hid (t9.obj Mg2.out (by simp)); have lh1 := lt_of_obj Mh1.out; have mh1 : Wh.cell? ⟨qp, 0, none⟩ = some (.slice qa cs.length qc) := cell_of_row _ _ 0 _ _ _ Mh1.out; have lh2 := lt_of_obj Mh2.out; have mh2 : Wh.cell? ⟨qd, 0, none⟩ = some (.slice ra ds.length rc) := cell_of_row _ _ 0 _ _ _ Mh2.out; clear t9)
                  | (go_at_call 13; refine (same_true _ _ cs ds _ PGh.out PHh.out (HAC.out.trans HAD.out.symm)).mono ?_; rintro r Wk ⟨rfl, tk⟩; have HTk := hid (HTh.out.trans tk); clear tk))
                go_roundw
                case rel => exact ⟨k + 1, by go_num, by omega, HTk.out⟩
                case measure => simp [intOf]; omega
              · have WG := hid wg
                have her : (er == 0) = false := by simpa using wg.e
                have hp0 := wg.p.1
                have hp1 := wg.p.2
                clear wg hok
                go_upto_region 25 with (go_at_call 11; refine (HPA.out _ (HE.out.below (T10.out.below (Nat.le_refl _) (by simp))) (HK.out.tch T10.out) (HW.out.tch T10.out (by simp))).mono ?_; rintro r Wp ⟨qa, qc, cs, rfl, hab, tp, pg⟩; rw [WG.out.r] at hab ⊢; have hnil : cs = [] := List.map_eq_nil_iff.1 hab; subst hnil; have Tp := hid (T10.out.trans tp); have HTp := hid (HT.out.trans tp); clear hab tp pg)
                have T1q := hid (Tp.out.alloc (.cells #[.slice qa 0 qc] 29))
                have HT1 := hid (HTp.out.alloc (.cells #[.slice qa 0 qc] 29))
                generalize Wp.alloc (.cells #[.slice qa 0 qc] 29) = Wq at T1q HT1 ⊢
                go_upto_region 26 with (go_at_call 16; refine (split_w htn WG.out _ (HE.out.below (T1q.out.below (Nat.le_refl _) (by simp)))).mono ?_; rintro r Ws ⟨sv, sp, sf, rfl, hsf, ts⟩; have HTs := hid (HT1.out.trans ts); have HSF := hid hsf; clear hsf ts)
                rcases HSF.out with e | ⟨e1, e2⟩
                · subst e
                  go_wp2_with fail
                  go_roundw
                  case rel => exact ⟨k + 1, by go_num, by omega, HTs.out⟩
                  case measure => simp [intOf]; omega
                · subst e1 e2
                  have her2 : (sf != 0) = true := by simpa using WG.out.e
                  go_wp2_with fail
                  go_roundw
                  case rel => exact ⟨k + 1, by go_num, by omega, HTs.out⟩
                  case measure => simp [intOf]; omega
            · go_wp2_with fail
              go_ret
              exact ⟨rfl, T10.out⟩
      · go_simp
        refine hK _ _ ?_
        clear hK K
        try simp only [Act.put, List.setIfInBounds_toArray, List.set_cons_zero, List.set_cons_succ]
        have SX := hid (show SS w.heap.size (.slice (some ⟨Wk.heap.size, 0, none⟩) 1 1) [X] (Wk.alloc (.cells #[.string (bytesOf X)] 9)) from ss_new (n := w.heap.size) Wk Wk.heap.size rfl TT.out.size [X] (by simp))
        replace SB := hid (SB.out.tch ((Tch.refl [] Wk).alloc (.cells #[.string (bytesOf X)] 9)) (by simp))
        replace TT := hid (TT.out.alloc (.cells #[.string (bytesOf X)] 9))
        generalize Wk.alloc (.cells #[.string (bytesOf X)] 9) = W0 at SX SB TT ⊢
        generalize Wk.heap.size = bx at SX ⊢
        obtain ⟨Wk, rfl⟩ : ∃ W : World, W = W0 := ⟨_, rfl⟩
        refine wpAny_ready (rs := [0]) (by kernel_rfl) (by simp) (AllReady.cons (o := { dst := some 71, op := Go.Op.buildSlice 31 0 #[], type := 31, pos := "law.go:138", after := #[], guard := none }) rfl (fun K hK => ?_) AllReady.nil)
        go_simp
        refine hK _ _ ?_
        clear hK K
        try simp only [Act.put, List.setIfInBounds_toArray, List.set_cons_zero, List.set_cons_succ]
        have S0 := hid (ss_new (n := w.heap.size) Wk Wk.heap.size rfl TT.out.size [] (by simp))
        have nb0 : bt5 < Wk.heap.size := SB.out.s.lt bt5 (by simp [blks])
        replace SB := hid (SB.out.tch ((Tch.refl [] Wk).alloc (.cells #[] 9)) (by simp))
        have nx0 : ¬ bx = Wk.heap.size := by have := SX.out.s.lt bx (by simp [blks]); omega
        replace SX := hid (SX.out.tch ((Tch.refl [] Wk).alloc (.cells #[] 9)) (by simp))
        replace TT := hid (TT.out.alloc (.cells #[] 9))
        have zb0 : Wk.heap.size < (Wk.alloc (.cells #[] 9)).heap.size := by simp
        replace S0 := hid (show SS w.heap.size (.slice (some ⟨Wk.heap.size, 0, none⟩) 0 0) [] (Wk.alloc (.cells #[] 9)) from S0.out)
        generalize Wk.alloc (.cells #[] 9) = W0 at S0 SB TT zb0 SX ⊢
        generalize Wk.heap.size = b0 at S0 nb0 zb0 nx0 ⊢
        obtain ⟨Wk, rfl⟩ : ∃ W : World, W = W0 := ⟨_, rfl⟩
        refine wpAny_ready (rs := [4]) (by kernel_rfl) (by simp) (AllReady.cons (o := { dst := some 75, op := Go.Op.call { callee := Go.Callee.builtin Go.Builtin.append, args := #[Go.Operand.tmp 71, Go.Operand.tmp 74], argTypes := #[31, 31] }, type := 31, pos := "law.go:138", after := #[{ on := 0, ground := Go.Ground.data }, { on := 3, ground := Go.Ground.data }], guard := none }) rfl (fun K hK => ?_) AllReady.nil)
        refine step_append_t rfl _ _ 31 rfl Tryz.underlying31 info_str rfl (by decide) (.slice (some ⟨b0, 0, none⟩) 0 0) rfl S0.out.s (⟨bt5, of5, none⟩) (kn) (vc5) rfl (svs (TP.take kn)) (by rw [svs_len, hlk]) ((SB.out.take hne kn (by omega)).news.2) (svs_one _) (by simp; omega) ?_
        intro v8 w8 hs8 ht8 hd8 hb8
        rw [show ([] : List (List UInt8)).length + kn = kn by simp, show svs [] ++ svs (TP.take kn) = svs (TP.take kn) from rfl] at hs8
        obtain ⟨ya, yc, hv8⟩ := hs8.shape
        subst hv8
        have S8 := hid (show SS w.heap.size (.slice ya kn yc) (TP.take kn) w8 from ⟨by rw [hlk]; exact hs8, fun x hx => by rcases hb8 x hx with h | h; exact S0.out.o x h; exact Nat.le_trans TT.out.size h⟩)
        have N8 := hid (show ∀ b ∈ blks (.slice ya kn yc), ¬ b = bt5 from fun b hb e => by rcases hb8 b hb with h | h; simp [blks] at h; omega; have := SB.out.s.lt bt5 (by simp [blks]); omega)
        replace SX := hid (show SS w.heap.size (.slice (some ⟨bx, 0, none⟩) 1 1) [X] w8 from ⟨SX.out.s.kept ht8 (fun b hb hm => by simp [blks] at hb hm; omega), SX.out.o⟩)
        replace TT := hid (show Tch [] w w8 from TT.out.trans2 ht8 (fun x hx => .inr (S0.out.o x hx)))
        replace SB := hid (show SS w.heap.size (.slice (some ⟨bt5, of5, none⟩) TP.length vc5) TP w8 from ⟨SB.out.s.kept ht8 (fun b hb hm => by simp [blks] at hb hm; omega), SB.out.o⟩)
        clear hs8 ht8 hd8 hb8
        refine hK _ _ ?_
        clear hK K
        try simp only [Act.put, List.setIfInBounds_toArray, List.set_cons_zero, List.set_cons_succ]
        obtain ⟨Wk, rfl⟩ : ∃ W : World, W = w8 := ⟨_, rfl⟩
        refine wpAny_ready (rs := [7]) (by kernel_rfl) (by simp) (AllReady.cons (o := { dst := some 78, op := Go.Op.call { callee := Go.Callee.builtin Go.Builtin.append, args := #[Go.Operand.tmp 75, Go.Operand.tmp 77], argTypes := #[31, 31] }, type := 31, pos := "law.go:138", after := #[{ on := 4, ground := Go.Ground.data }, { on := 6, ground := Go.Ground.data }, { on := 4, ground := Go.Ground.chain }], guard := none }) rfl (fun K hK => ?_) AllReady.nil)
        refine step_append_t rfl _ _ 31 rfl Tryz.underlying31 info_str rfl (by decide) (.slice ya kn yc) rfl S8.out.s (⟨bx, 0, none⟩) (1) (1) rfl (svs ([X])) (by rw [svs_len]; rfl) (SX.out.news.2) (svs_one _) (by rw [hlk]; omega) ?_
        intro v9 w9 hs9 ht9 hd9 hb9
        rw [hlk] at hs9
        obtain ⟨ua, uc, hv9⟩ := hs9.shape
        subst hv9
        have S9 := hid (show SS w.heap.size (.slice ua (kn + 1) uc) (TP.take kn ++ [X]) w9 from ⟨by rw [List.length_append, hlk, ← svs_app]; exact hs9, fun x hx => by rcases hb9 x hx with h | h; exact S8.out.o x h; exact Nat.le_trans TT.out.size h⟩)
        replace TT := hid (show Tch [] w w9 from TT.out.trans2 ht9 (fun x hx => .inr (S8.out.o x hx)))
        replace SB := hid (show SS w.heap.size (.slice (some ⟨bt5, of5, none⟩) TP.length vc5) TP w9 from ⟨SB.out.s.kept ht9 (fun b hb hm => by simp [blks] at hb; subst hb; exact N8.out _ hm rfl), SB.out.o⟩)
        clear hs9 ht9 hd9 hb9 SX S8 N8
        refine hK _ _ ?_
        clear hK K
        try simp only [Act.put, List.setIfInBounds_toArray, List.set_cons_zero, List.set_cons_succ]
        obtain ⟨Wk, rfl⟩ : ∃ W : World, W = w9 := ⟨_, rfl⟩
        refine wpAny_ready (rs := [11]) (by kernel_rfl) (by simp) (AllReady.cons (o := { dst := some 82, op := Go.Op.call { callee := Go.Callee.builtin Go.Builtin.append, args := #[Go.Operand.tmp 78, Go.Operand.tmp 81], argTypes := #[31, 31] }, type := 31, pos := "law.go:138", after := #[{ on := 7, ground := Go.Ground.data }, { on := 10, ground := Go.Ground.data }, { on := 7, ground := Go.Ground.chain }], guard := none }) rfl (fun K hK => ?_) AllReady.nil)
        refine step_append_t rfl _ _ 31 rfl Tryz.underlying31 info_str rfl (by decide) (.slice ua (kn + 1) uc) rfl S9.out.s (⟨bt5, of5 + kn, none⟩) (TP.length - kn) (vc5 - kn) rfl (svs (TP.drop kn)) (by rw [svs_len, List.length_drop]) ((SB.out.drop' kn (by omega)).news.2) (svs_one _) (by rw [hlk1]; omega) ?_
        intro v5 wc hs5 ht5 hd5 hb5
        rw [hlk1] at hs5
        obtain ⟨xa, xc, hv5⟩ := hs5.shape
        subst hv5
        have HAS := hid (show AnS w (.slice xa ((kn + 1) + (TP.length - kn)) xc) ((TP.take kn ++ [X]) ++ TP.drop kn) wc from ⟨⟨by rw [List.length_append, hlk1, List.length_drop, ← svs_app]; exact hs5, fun x hx => by rcases hb5 x hx with h | h; exact S9.out.o x h; exact Nat.le_trans TT.out.size h⟩, TT.out.trans2 ht5 (fun x hx => .inr (S9.out.o x hx)), ((HTO.out.take kn).app HTX.out).app (HTO.out.drop kn), by rw [List.length_append, hlk1, List.length_drop]; have := HKP.out; omega⟩)
        clear hs5 ht5 hd5 hb5
        refine hK _ _ ?_
        clear hK K
        try simp only [Act.put, List.setIfInBounds_toArray, List.set_cons_zero, List.set_cons_succ]
        refine wpAny_take (i := 12) (oi := { dst := some 11, op := Go.Op.assign (Go.Operand.tmp 82), type := 31, pos := "law.go:138", after := #[{ on := 11, ground := Go.Ground.data }, { on := 11, ground := Go.Ground.chain }, { on := 0, ground := Go.Ground.phase }, { on := 1, ground := Go.Ground.phase }, { on := 2, ground := Go.Ground.phase }, { on := 3, ground := Go.Ground.phase }, { on := 4, ground := Go.Ground.phase }, { on := 5, ground := Go.Ground.phase }, { on := 6, ground := Go.Ground.phase }, { on := 7, ground := Go.Ground.phase }, { on := 8, ground := Go.Ground.phase }, { on := 9, ground := Go.Ground.phase }, { on := 10, ground := Go.Ground.phase }, { on := 11, ground := Go.Ground.phase }], guard := none }) (v := ?_) rfl (by kernel_rfl) (by kernel_rfl) (by kernel_rfl) (fun _ _ _ h => h) (Or.inl ⟨by rfl, ?_⟩) ?_
        rotate_left
        (intro w; go_simp; try (with_reducible rfl))
        simp only [Act.put, List.setIfInBounds_toArray, List.set_cons_zero, List.set_cons_succ]
        refine wpAny_done (by kernel_rfl) (NoPanic.normal ?_) _
        go_simp
        go_upto_region 15 with fail
        generalize (TP.take kn ++ [X]) ++ TP.drop kn = L at HAS
        generalize (kn + 1) + (TP.length - kn) = nL at HAS ⊢
        clear HKP HLK HLK1 hvn HOZ hoz q4 hkp1 hkp2 hkc hkd hlk hlk1
        obtain ⟨sL, tL, kL_, nL⟩ := HAS.out
        have hTk := kL_.txt nL
        have hl3 := hTk.1
        have HT7 := hid tL
        have HTN := hid (text_nil (.slice xa _ xc) L _ wc sL (by omega))
        have st := bytes_size (txT L)
        have HTO2 := hid hTk.2
        clear HAS sL tL kL_ hTk hkl hkn q1 q3 e17 f17 b17 c17_ e3 f3 HTO HTX T6 S6 hne hnl hc5 hc6
        generalize bytesOf (txT L) = TXL at *
        have s4 : (⟨#[64, 48, 58, 10]⟩ : ByteArray).size = 4 := rfl
        have s5 : (⟨#[10, 116, 114, 97, 112]⟩ : ByteArray).size = 5 := rfl
        have s6 : ((⟨#[64, 48, 58, 10]⟩ : ByteArray) ++ raw).size = 4 + raw.size := by rw [ByteArray.size_append, s4]
        have s7 : (((⟨#[64, 48, 58, 10]⟩ : ByteArray) ++ raw) ++ (⟨#[10, 116, 114, 97, 112]⟩ : ByteArray)).size = 4 + raw.size + 5 := by rw [ByteArray.size_append, s6, s5]
        have HR3 := hid (raw_txt (s := ((⟨#[64, 48, 58, 10]⟩ : ByteArray) ++ raw) ++ (⟨#[10, 116, 114, 97, 112]⟩ : ByteArray)) (by omega))
        have HR1 := hid (raw_txt (s := raw) (by omega))
        have l6 : TXL.size ≤ 30000 := by omega
        clear st hl3
        go_wp2_with (go_at_call 12; refine HTN.out.mono ?_; rintro r W8 ⟨rfl, t8⟩; have T8 := hid (HT7.out.trans t8); clear t8)
        generalize hTX3 : ((⟨#[64, 48, 58, 10]⟩ : ByteArray) ++ raw) ++ (⟨#[10, 116, 114, 97, 112]⟩ : ByteArray) = TX3 at *
        have M := hid (heap_alloc_new W8 (.cells #[.string raw, .string TXL, .string TX3] 9))
        have T9 := hid (T8.out.alloc (.cells #[.string raw, .string TXL, .string TX3] 9))
        generalize W8.alloc (.cells #[.string raw, .string TXL, .string TX3] 9) = W9 at M T9 ⊢
        generalize W8.heap.size = q9 at M ⊢
        clear hTX3 s4 s5 s6 s7
        go_loopw [15, 16, 17, 18, 19, 20, 21, 22, 23, 24, 91] (fun _ _ _ _ _ _ _ _ _ _ vi wr => ∃ k : Nat, vi = .int .i64 k ∧ k ≤ 3 ∧ Hid (Tch [] W9 wr)) (fun _ _ _ _ _ _ _ _ _ _ vi _ => 3 - (intOf vi).toNat)
        case atStart => exact ⟨0, rfl, by omega, Tch.refl _ _⟩
        case round =>
          obtain ⟨k, rfl, hk, HT⟩ := hrel
          have T10 := hid (T9.out.trans HT.out)
          by_cases hlt : k < 3
          · obtain ⟨tx, hcx, hok⟩ : ∃ tx, wr.cell? ⟨q9, k, none⟩ = some (.string tx) ∧ TxtOk tx := by
              have mo := HT.out.obj M.out (by simp)
              have hk3 : k = 0 ∨ k = 1 ∨ k = 2 := by omega
              rcases hk3 with rfl | rfl | rfl
              · exact ⟨raw, cell_of_row _ _ 0 _ _ _ mo, HR1.out⟩
              · exact ⟨TXL, cell_of_row _ _ 1 _ _ _ mo, HTO2.out⟩
              · exact ⟨TX3, cell_of_row _ _ 2 _ _ _ mo, HR3.out⟩
            have ltq : q9 < wr.heap.size := cell_lt hcx
            have htn := hok.n
            have HPA := hid (fun W => parse_any tx (by omega) W)
            rcases again_or hok with ⟨P, ag⟩ | ⟨pl, er, wg⟩
            · have AG := hid ag
              have HPB := hid (fun W => parse_any (bytesOf (txT (txP P))) (by rw [bytes_size]; have := ag.t; omega) W)
              clear ag hok
              go_upto_region 19 with (go_at_call 11; refine (HPA.out _ (HE.out.below (T10.out.below (Nat.le_refl _) (by simp))) (HK.out.tch T10.out) (HW.out.tch T10.out (by simp))).mono ?_; rintro r Wp ⟨qa, qc, cs, rfl, hab, tp, pg⟩; rw [AG.out.r] at hab ⊢; have Tp := hid (T10.out.trans tp); have HTp := hid (HT.out.trans tp); have PG := hid pg.plp; have HAC := hid hab; clear hab tp pg)
              have M1 := hid (heap_alloc_new Wp (.cells #[.slice qa cs.length qc] 29))
              have T1q := hid (Tp.out.alloc (.cells #[.slice qa cs.length qc] 29))
              have HT1 := hid (HTp.out.alloc (.cells #[.slice qa cs.length qc] 29))
              have PG1 := hid (PG.out.tch ((Tch.refl [] Wp).alloc (.cells #[.slice qa cs.length qc] 29)))
              generalize Wp.alloc (.cells #[.slice qa cs.length qc] 29) = Wq at M1 T1q HT1 PG1 ⊢
              have lm1 := lt_of_obj M1.out
              have m1 : Wq.cell? ⟨Wp.heap.size, 0, none⟩ = some (.slice qa cs.length qc) := cell_of_row _ _ 0 _ _ _ M1.out
              generalize Wp.heap.size = qp at M1 lm1 m1 ⊢
              have hpl := PG1.out.b.le
              unfold maxLen at hpl
              go_upto_region 21 with (first
                | (go_at_call 10; refine (tokens_p _ cs _ PG1.out (fun B hB => blk_64 (AG.out.b _ (by rw [← HAC.out]; exact List.mem_map_of_mem hB))) (by rw [HAC.out]; have := AG.out.l; omega)).mono ?_; rw [HAC.out]; rintro r Wa ⟨v5, rfl, s5, t5⟩; obtain ⟨va5, vc5, rfl, hc5, hc6⟩ := s5.shapeC; have S5 := hid s5; have Ta := hid (T1q.out.trans t5); have HTa := hid (HT1.out.trans t5); have PGa := hid (PG1.out.tch t5); have M1a := hid (t5.obj M1.out (by simp)); clear s5 t5)
                | (go_at_call 12; refine (text_nil _ _ _ _ S5.out (by have := AG.out.t; omega)).mono ?_; rintro r Wb ⟨rfl, t6⟩; have Tb := hid (Ta.out.trans t6); have HTb := hid (HTa.out.trans t6); have PGb := hid (PGa.out.tch t6); have M1b := hid (t6.obj M1a.out (by simp)); clear t6)
                | (go_at_call 11; refine (HPB.out _ (HE.out.below (Tb.out.below (Nat.le_refl _) (by simp))) (HK.out.tch Tb.out) (HW.out.tch Tb.out (by simp))).mono ?_; rintro r Wd ⟨ra, rc, ds, rfl, hab, t7, pg⟩; rw [AG.out.a] at hab ⊢; have Td := hid (Tb.out.trans t7); have HTd := hid (HTb.out.trans t7); have PGd := hid (PGb.out.tch t7); have M1d := hid (t7.obj M1b.out (by simp)); have PH := hid pg.plp; have HAD := hid hab; clear hab t7 pg))
              have M2 := hid (heap_alloc_new Wd (.cells #[.slice ra ds.length rc] 29))
              have M1f := hid (((Tch.refl [] Wd).alloc (.cells #[.slice ra ds.length rc] 29)).obj M1d.out (by simp))
              have Tf := hid (Td.out.alloc (.cells #[.slice ra ds.length rc] 29))
              have HTf := hid (HTd.out.alloc (.cells #[.slice ra ds.length rc] 29))
              have PGf := hid (PGd.out.tch ((Tch.refl [] Wd).alloc (.cells #[.slice ra ds.length rc] 29)))
              have PHf := hid (PH.out.tch ((Tch.refl [] Wd).alloc (.cells #[.slice ra ds.length rc] 29)))
              generalize Wd.alloc (.cells #[.slice ra ds.length rc] 29) = Wf at M2 M1f Tf HTf PGf PHf ⊢
              generalize Wd.heap.size = qd at M2 ⊢
              have lf1 := lt_of_obj M1f.out
              have mf1 : Wf.cell? ⟨qp, 0, none⟩ = some (.slice qa cs.length qc) := cell_of_row _ _ 0 _ _ _ M1f.out
              have lf2 := lt_of_obj M2.out
              have mf2 : Wf.cell? ⟨qd, 0, none⟩ = some (.slice ra ds.length rc) := cell_of_row _ _ 0 _ _ _ M2.out
              clear m1 lm1
              have HCK := hid (check_p _ cs Wf (HK.out.tch Tf.out) PGf.out (by rw [HAC.out]; exact AG.out.b) (by rw [HAC.out]; exact AG.out.n))
              rw [HAC.out, AG.out.c] at HCK
              go_wp2_with (first
                | (go_at_call 14; refine HCK.out.mono ?_; rintro r Wg ⟨rfl, t8⟩; have HTg := hid (HTf.out.trans t8); have PGg := hid (PGf.out.tch t8); have PHg := hid (PHf.out.tch t8); have Mg1 := hid (t8.obj M1f.out (by simp)); have Mg2 := hid (t8.obj M2.out (by simp)); have lg1 := lt_of_obj Mg1.out; have mg1 : Wg.cell? ⟨qp, 0, none⟩ = some (.slice qa cs.length qc) := cell_of_row _ _ 0 _ _ _ Mg1.out; clear t8)
                | (go_at_call 15; refine (plain_true _ cs _ PGg.out).mono ?_; rintro r Wh ⟨rfl, t9⟩; have HTh := hid (HTg.out.trans t9); have PGh := hid (PGg.out.tch t9); have PHh := hid (PHg.out.tch t9); have Mh1 := hid (t9.obj Mg1.out (by simp)); have Mh2 := hid (t9.obj Mg2.out (by simp)); have lh1 := lt_of_obj Mh1.out; have mh1 : Wh.cell? ⟨qp, 0, none⟩ = some (.slice qa cs.length qc) := cell_of_row _ _ 0 _ _ _ Mh1.out; have lh2 := lt_of_obj Mh2.out; have mh2 : Wh.cell? ⟨qd, 0, none⟩ = some (.slice ra ds.length rc) := cell_of_row _ _ 0 _ _ _ Mh2.out; clear t9)
                | (go_at_call 13; refine (same_true _ _ cs ds _ PGh.out PHh.out (HAC.out.trans HAD.out.symm)).mono ?_; rintro r Wk ⟨rfl, tk⟩; have HTk := hid (HTh.out.trans tk); clear tk))
              go_roundw
              case rel => exact ⟨k + 1, by go_num, by omega, HTk.out⟩
              case measure => simp [intOf]; omega
            · have WG := hid wg
              have her : (er == 0) = false := by simpa using wg.e
              have hp0 := wg.p.1
              have hp1 := wg.p.2
              clear wg hok
              go_upto_region 25 with (go_at_call 11; refine (HPA.out _ (HE.out.below (T10.out.below (Nat.le_refl _) (by simp))) (HK.out.tch T10.out) (HW.out.tch T10.out (by simp))).mono ?_; rintro r Wp ⟨qa, qc, cs, rfl, hab, tp, pg⟩; rw [WG.out.r] at hab ⊢; have hnil : cs = [] := List.map_eq_nil_iff.1 hab; subst hnil; have Tp := hid (T10.out.trans tp); have HTp := hid (HT.out.trans tp); clear hab tp pg)
              have T1q := hid (Tp.out.alloc (.cells #[.slice qa 0 qc] 29))
              have HT1 := hid (HTp.out.alloc (.cells #[.slice qa 0 qc] 29))
              generalize Wp.alloc (.cells #[.slice qa 0 qc] 29) = Wq at T1q HT1 ⊢
              go_upto_region 26 with (go_at_call 16; refine (split_w htn WG.out _ (HE.out.below (T1q.out.below (Nat.le_refl _) (by simp)))).mono ?_; rintro r Ws ⟨sv, sp, sf, rfl, hsf, ts⟩; have HTs := hid (HT1.out.trans ts); have HSF := hid hsf; clear hsf ts)
              rcases HSF.out with e | ⟨e1, e2⟩
              · subst e
                go_wp2_with fail
                go_roundw
                case rel => exact ⟨k + 1, by go_num, by omega, HTs.out⟩
                case measure => simp [intOf]; omega
              · subst e1 e2
                have her2 : (sf != 0) = true := by simpa using WG.out.e
                go_wp2_with fail
                go_roundw
                case rel => exact ⟨k + 1, by go_num, by omega, HTs.out⟩
                case measure => simp [intOf]; omega
          · go_wp2_with fail
            go_ret
            exact ⟨rfl, T10.out⟩
    · go_wp2_with (go_at_call 8; refine (HL.out _ (HS.out.tch T1.out)).mono ?_; rintro r W2 ⟨rfl, g2⟩; have T2 := hid (T1.out.trans g2.tch); clear g2)
      go_ret
      exact ⟨rfl, T2.out⟩
  · have hlf : lightB s = false := by simpa using hlb
    rw [hlf] at HL
    clear hlb hlf HPG
    go_wp2_with (go_at_call 8; refine (HL.out _ (HS.out.tch T1.out)).mono ?_; rintro r W2 ⟨rfl, g2⟩; have T2 := hid (T1.out.trans g2.tch); clear g2)
    go_ret
    exact ⟨rfl, T2.out⟩
end Go.Proofs.YtgegdelinckfoaaGreatDoor


/- ParseAny: the walk, where what is 2 of three. -/
set_option linter.unusedSimpArgs false
set_option linter.unusedVariables false
namespace Go.Proofs.YtgegdelinckfoaaGreatDoor
open Go.RowKit Go.Sort

set_option maxRecDepth 100000 in
set_option maxHeartbeats 16000000 in
theorem any_walkC (raw : ByteArray) (s : SmlM) (cut put what : Int) (w : World) (hE : Env w) (hK : Kinds w) (hW : WordsH w) (hs : SmlOk w s) (hr : raw.size ≤ maxLen) (hc : 0 ≤ cut ∧ cut ≤ 65535) (hp : 0 ≤ put ∧ put ≤ 255) (hw : 0 ≤ what ∧ what ≤ 255) (hw3 : what % 3 = 2) :
    Calls Tryz.prog 4 #[.string raw, .agg #[.int .u8 s.r, .bool s.bare, s.bv], .int .u16 cut, .int .u8 put, .int .u8 what] w fun r w' => r = .returned (.bool true) ∧ Tch [] w w' := by
  have hm : Tryz.prog.follows .mixedOrders = true := by kernel_rfl
  unfold maxLen at hr
  have HL := hid (fun W (h : SmlOk W s) => light_any s W h)
  have HPG := hid (fun W (hk : Kinds W) (h : SmlOk W s) hl => program_any s W hk h hl)
  obtain ⟨va, vc, hbv, _⟩ := hs.b.shape
  rw [hbv] at HL HPG
  rw [hbv]
  have HE := hid hE
  have HK := hid hK
  have HW := hid hW
  have HS := hid hs
  have t0 : Tch [] w (w.alloc (.cells #[.int .u8 s.r, .bool s.bare, .slice va s.bs.length vc] 24)) := (Tch.refl [] w).alloc _
  have T0 := hid t0
  clear hE hK hW t0 hs hbv
  go_enter Tryz.func4, Tryz.ntmps4
  go_upto_region 3 with (go_at_call 7; refine (awake_p _ (HE.out.below (T0.out.below (Nat.le_refl _) (by simp))) (HK.out.tch T0.out) (HW.out.tch T0.out (by simp))).mono ?_; rintro r W1 ⟨rfl, t1⟩; have T1 := hid (T0.out.trans t1); have z := t1.obj (heap_alloc_new w (.cells #[.int .u8 s.r, .bool s.bare, .slice va s.bs.length vc] 24)) (by simp); have Z := hid z; have z0 := cell_of_row _ _ 0 _ _ _ z; have z1 := cell_of_row _ _ 1 _ _ _ z; have z2 := cell_of_row _ _ 2 _ _ _ z; simp only [List.getElem?_toArray, List.getElem?_cons_zero, List.getElem?_cons_succ] at z0 z1 z2; clear t1 z)
  by_cases hlb : lightB s = true
  · rw [hlb] at HL
    have HPG := hid (fun W (hk : Kinds W) (h : SmlOk W s) => HPG.out W hk h hlb)
    have HLB := hid hlb
    clear hlb
    by_cases h200 : raw.size ≤ 200
    · go_upto_region 5 with (go_at_call 8; refine (HL.out _ (HS.out.tch T1.out)).mono ?_; rintro r W2 ⟨rfl, g2⟩; have T2 := hid (T1.out.trans g2.tch); have z := g2.tch.obj Z.out (by simp); have Z2 := hid z; have y0 := cell_of_row _ _ 0 _ _ _ z; have y1 := cell_of_row _ _ 1 _ _ _ z; have y2 := cell_of_row _ _ 2 _ _ _ z; simp only [List.getElem?_toArray, List.getElem?_cons_zero, List.getElem?_cons_succ] at y0 y1 y2; clear g2 z)
      have hnl := progA_len HLB.out
      have hne := txP_pos (progA_ne s)
      go_upto_region 6 with (first
        | (go_at_call 9; refine (HPG.out _ (HK.out.tch T2.out) (HS.out.tch T2.out)).mono ?_; rintro r W3 ⟨v, bp, bs, rfl, own, hab, g3⟩; obtain ⟨pa, pc, rfl⟩ := own.b.shape; have T3 := hid (T2.out.trans g3.tch); have PL := hid own.plp; have HAB := hid hab; clear own hab g3 y0 y1 y2)
        | (go_at_call 10; refine (tokens_p _ bs W3 PL.out (fun B hB => progA_64 HLB.out HS.out.lins _ (by rw [← HAB.out]; exact List.mem_map_of_mem hB)) (by rw [HAB.out]; omega)).mono ?_; rw [HAB.out]; rintro r W5 ⟨v5, rfl, s5, t5⟩; obtain ⟨bt5, of5, vc5, hv5⟩ := s5.s.ptr hne; obtain ⟨va5, vc6, hv6, hc5, hc6⟩ := s5.shapeC; subst hv5; cases hv6; unfold maxLen at hc6; have T5 := hid (T3.out.trans t5); have hsz := T3.out.size; have S5 := hid (show SS w.heap.size _ _ _ from ⟨s5.s, fun x hx => Nat.le_trans hsz (s5.o x hx)⟩); clear s5 t5 hsz))
      have q1 : IntKind.i64.wrap cut = cut := by rw [IntKind.wrap_i64]; omega
      obtain ⟨kn, hkn⟩ : ∃ kn : Nat, cut.tmod ((txP (progA s)).length : Int) = (kn : Int) := ⟨(cut.tmod ((txP (progA s)).length : Int)).toNat, by rw [Int.toNat_of_nonneg (Int.tmod_nonneg _ hc.1)]⟩
      have hkl : kn < (txP (progA s)).length := by
        have := Int.tmod_lt_of_pos cut (b := ((txP (progA s)).length : Int)) (by omega)
        omega
      have q3 : IntKind.i64.wrap (kn : Int) = (kn : Int) := by rw [IntKind.wrap_i64]; omega
      have HTO := hid (toky_prog HLB.out HS.out.lins)
      clear PL
      generalize txP (progA s) = TP at *
      have e17 : put.tmod 17 = put % 17 := Int.tmod_eq_emod_of_nonneg (by omega)
      have f17 : IntKind.u8.wrap (put % 17) = put % 17 := by rw [IntKind.wrap_u8]; omega
      have b17 : 0 ≤ put % 17 := by omega
      have c17_ : put % 17 < 17 := by omega
      have HX := hid (x17_cell W5 put)
      have hx17 := HX.out
      go_upto_region 8 with fail
      have T6 := hid (T5.out.alloc (.cells #[.string ⟨#[64, 51]⟩, .string ⟨#[58]⟩, .string ⟨#[10]⟩, .string ⟨#[37, 50]⟩, .string ⟨#[61]⟩, .string ⟨#[55]⟩, .string ⟨#[97, 100, 100]⟩, .string ⟨#[44]⟩, .string ⟨#[106, 117, 109, 112]⟩, .string ⟨#[98, 114]⟩, .string ⟨#[36, 49]⟩, .string ⟨#[105, 110]⟩, .string ⟨#[111, 117, 116]⟩, .string ⟨#[114, 101, 116]⟩, .string ⟨#[37, 49, 48, 48, 48, 48, 48]⟩, .string ⟨#[64, 49, 48, 48, 48, 48, 48]⟩, .string ⟨#[36, 49, 54]⟩] 9))
      have S6 := hid (S5.out.tch ((Tch.refl [] W5).alloc (.cells #[.string ⟨#[64, 51]⟩, .string ⟨#[58]⟩, .string ⟨#[10]⟩, .string ⟨#[37, 50]⟩, .string ⟨#[61]⟩, .string ⟨#[55]⟩, .string ⟨#[97, 100, 100]⟩, .string ⟨#[44]⟩, .string ⟨#[106, 117, 109, 112]⟩, .string ⟨#[98, 114]⟩, .string ⟨#[36, 49]⟩, .string ⟨#[105, 110]⟩, .string ⟨#[111, 117, 116]⟩, .string ⟨#[114, 101, 116]⟩, .string ⟨#[37, 49, 48, 48, 48, 48, 48]⟩, .string ⟨#[64, 49, 48, 48, 48, 48, 48]⟩, .string ⟨#[36, 49, 54]⟩] 9)) (by simp))
      generalize W5.alloc (.cells #[.string ⟨#[64, 51]⟩, .string ⟨#[58]⟩, .string ⟨#[10]⟩, .string ⟨#[37, 50]⟩, .string ⟨#[61]⟩, .string ⟨#[55]⟩, .string ⟨#[97, 100, 100]⟩, .string ⟨#[44]⟩, .string ⟨#[106, 117, 109, 112]⟩, .string ⟨#[98, 114]⟩, .string ⟨#[36, 49]⟩, .string ⟨#[105, 110]⟩, .string ⟨#[111, 117, 116]⟩, .string ⟨#[114, 101, 116]⟩, .string ⟨#[37, 49, 48, 48, 48, 48, 48]⟩, .string ⟨#[64, 49, 48, 48, 48, 48, 48]⟩, .string ⟨#[36, 49, 54]⟩] 9) = W6 at T6 S6 ⊢
      clear HX hx17 S5
      have HTX := hid (toky_x put)
      generalize xOf put = X at *
      have e3 : what.tmod 3 = what % 3 := Int.tmod_eq_emod_of_nonneg (by omega)
      have f3 : IntKind.u8.wrap 2 = 2 := by decide
      rw [hw3] at e3
      clear hw3
      go_upto_region 9 with fail
      have S0 := hid (ss_new (n := w.heap.size) W6 W6.heap.size rfl T6.out.size [] (by simp))
      have S6a := hid (S6.out.tch ((Tch.refl [] W6).alloc (.cells #[] 9)) (by simp))
      go_upto_region 10 with (at_builtin; refine wpList_append_t _ rfl _ _ 31 rfl Tryz.underlying31 info_str rfl (by decide) (.slice (some ⟨W6.heap.size, 0, none⟩) 0 0) rfl S0.out.s ⟨bt5, of5, none⟩ TP.length vc5 rfl (svs TP) (svs_len TP) S6a.out.news.2 (svs_one TP) (by simp; omega) ?_; intro v7 w7 hs7 ht7 hd7 hb7; rw [show ([] : List (List UInt8)).length + TP.length = TP.length by simp, show svs [] ++ svs TP = svs TP from rfl] at hs7; have s7 := hid (show SS w.heap.size v7 TP w7 from ⟨hs7, fun x hx => by rcases hb7 x hx with h | h; exact S0.out.o x h; exact Nat.le_trans ((T6.out.alloc (.cells #[] 9)).size) h⟩); have T7 := hid (show Tch [] w w7 from (T6.out.alloc (.cells #[] 9)).trans2 ht7 (fun x hx => .inr (S0.out.o x hx))); obtain ⟨xb, xo, xc, hv7⟩ := hs7.ptr hne; subst hv7; clear hs7 ht7 hd7 hb7)
      obtain ⟨xold, hxold⟩ : ∃ u, TP[kn]? = some u := ⟨TP[kn], by simp [hkl]⟩
      have c7 := s7.out.s.cell.2.1 kn _ (svs_get hxold)
      have f7 := s7.out.s.cell.2.2.1
      have l7 := s7.out.s.cell.2.2.2
      go_upto_region 15 with fail
      have HAS : Hid (AnS w (.slice (some ⟨xb, xo, none⟩) TP.length xc) (TP.set kn X) (w7.setCell ⟨xb, xo + kn, none⟩ (.string (bytesOf X)))) := ⟨s7.out.set kn hkl X, T7.out.setCell (.inr (s7.out.o xb (by simp [blks]))) _, by rw [List.set_eq_take_append_cons_drop, if_pos hkl]; exact (HTO.out.take kn).app (HTX.out.app (HTO.out.drop (kn + 1))), by rw [List.length_set]; omega⟩
      clear c7 f7 l7 s7 T7 hxold S0 S6a
      generalize TP.set kn X = L at HAS
      generalize w7.setCell ⟨xb, xo + kn, none⟩ (.string (bytesOf X)) = wc at HAS ⊢
      generalize some (⟨xb, xo, none⟩ : Addr) = xa at HAS ⊢
      obtain ⟨sL, tL, kL_, nL⟩ := HAS.out
      have hTk := kL_.txt nL
      have hl3 := hTk.1
      have HT7 := hid tL
      have HTN := hid (text_nil (.slice xa _ xc) L _ wc sL (by omega))
      have st := bytes_size (txT L)
      have HTO2 := hid hTk.2
      clear HAS sL tL kL_ hTk hkl hkn q1 q3 e17 f17 b17 c17_ e3 f3 HTO HTX T6 S6 hne hnl hc5 hc6
      generalize bytesOf (txT L) = TXL at *
      have s4 : (⟨#[64, 48, 58, 10]⟩ : ByteArray).size = 4 := rfl
      have s5 : (⟨#[10, 116, 114, 97, 112]⟩ : ByteArray).size = 5 := rfl
      have s6 : ((⟨#[64, 48, 58, 10]⟩ : ByteArray) ++ raw).size = 4 + raw.size := by rw [ByteArray.size_append, s4]
      have s7 : (((⟨#[64, 48, 58, 10]⟩ : ByteArray) ++ raw) ++ (⟨#[10, 116, 114, 97, 112]⟩ : ByteArray)).size = 4 + raw.size + 5 := by rw [ByteArray.size_append, s6, s5]
      have HR3 := hid (raw_txt (s := ((⟨#[64, 48, 58, 10]⟩ : ByteArray) ++ raw) ++ (⟨#[10, 116, 114, 97, 112]⟩ : ByteArray)) (by omega))
      have HR1 := hid (raw_txt (s := raw) (by omega))
      have l6 : TXL.size ≤ 30000 := by omega
      clear st hl3
      go_wp2_with (go_at_call 12; refine HTN.out.mono ?_; rintro r W8 ⟨rfl, t8⟩; have T8 := hid (HT7.out.trans t8); clear t8)
      generalize hTX3 : ((⟨#[64, 48, 58, 10]⟩ : ByteArray) ++ raw) ++ (⟨#[10, 116, 114, 97, 112]⟩ : ByteArray) = TX3 at *
      have M := hid (heap_alloc_new W8 (.cells #[.string raw, .string TXL, .string TX3] 9))
      have T9 := hid (T8.out.alloc (.cells #[.string raw, .string TXL, .string TX3] 9))
      generalize W8.alloc (.cells #[.string raw, .string TXL, .string TX3] 9) = W9 at M T9 ⊢
      generalize W8.heap.size = q9 at M ⊢
      clear hTX3 s4 s5 s6 s7
      go_loopw [15, 16, 17, 18, 19, 20, 21, 22, 23, 24, 91] (fun _ _ _ _ _ _ _ _ _ _ vi wr => ∃ k : Nat, vi = .int .i64 k ∧ k ≤ 3 ∧ Hid (Tch [] W9 wr)) (fun _ _ _ _ _ _ _ _ _ _ vi _ => 3 - (intOf vi).toNat)
      case atStart => exact ⟨0, rfl, by omega, Tch.refl _ _⟩
      case round =>
        obtain ⟨k, rfl, hk, HT⟩ := hrel
        have T10 := hid (T9.out.trans HT.out)
        by_cases hlt : k < 3
        · obtain ⟨tx, hcx, hok⟩ : ∃ tx, wr.cell? ⟨q9, k, none⟩ = some (.string tx) ∧ TxtOk tx := by
            have mo := HT.out.obj M.out (by simp)
            have hk3 : k = 0 ∨ k = 1 ∨ k = 2 := by omega
            rcases hk3 with rfl | rfl | rfl
            · exact ⟨raw, cell_of_row _ _ 0 _ _ _ mo, HR1.out⟩
            · exact ⟨TXL, cell_of_row _ _ 1 _ _ _ mo, HTO2.out⟩
            · exact ⟨TX3, cell_of_row _ _ 2 _ _ _ mo, HR3.out⟩
          have ltq : q9 < wr.heap.size := cell_lt hcx
          have htn := hok.n
          have HPA := hid (fun W => parse_any tx (by omega) W)
          rcases again_or hok with ⟨P, ag⟩ | ⟨pl, er, wg⟩
          · have AG := hid ag
            have HPB := hid (fun W => parse_any (bytesOf (txT (txP P))) (by rw [bytes_size]; have := ag.t; omega) W)
            clear ag hok
            go_upto_region 19 with (go_at_call 11; refine (HPA.out _ (HE.out.below (T10.out.below (Nat.le_refl _) (by simp))) (HK.out.tch T10.out) (HW.out.tch T10.out (by simp))).mono ?_; rintro r Wp ⟨qa, qc, cs, rfl, hab, tp, pg⟩; rw [AG.out.r] at hab ⊢; have Tp := hid (T10.out.trans tp); have HTp := hid (HT.out.trans tp); have PG := hid pg.plp; have HAC := hid hab; clear hab tp pg)
            have M1 := hid (heap_alloc_new Wp (.cells #[.slice qa cs.length qc] 29))
            have T1q := hid (Tp.out.alloc (.cells #[.slice qa cs.length qc] 29))
            have HT1 := hid (HTp.out.alloc (.cells #[.slice qa cs.length qc] 29))
            have PG1 := hid (PG.out.tch ((Tch.refl [] Wp).alloc (.cells #[.slice qa cs.length qc] 29)))
            generalize Wp.alloc (.cells #[.slice qa cs.length qc] 29) = Wq at M1 T1q HT1 PG1 ⊢
            have lm1 := lt_of_obj M1.out
            have m1 : Wq.cell? ⟨Wp.heap.size, 0, none⟩ = some (.slice qa cs.length qc) := cell_of_row _ _ 0 _ _ _ M1.out
            generalize Wp.heap.size = qp at M1 lm1 m1 ⊢
            have hpl := PG1.out.b.le
            unfold maxLen at hpl
            go_upto_region 21 with (first
              | (go_at_call 10; refine (tokens_p _ cs _ PG1.out (fun B hB => blk_64 (AG.out.b _ (by rw [← HAC.out]; exact List.mem_map_of_mem hB))) (by rw [HAC.out]; have := AG.out.l; omega)).mono ?_; rw [HAC.out]; rintro r Wa ⟨v5, rfl, s5, t5⟩; obtain ⟨va5, vc5, rfl, hc5, hc6⟩ := s5.shapeC; have S5 := hid s5; have Ta := hid (T1q.out.trans t5); have HTa := hid (HT1.out.trans t5); have PGa := hid (PG1.out.tch t5); have M1a := hid (t5.obj M1.out (by simp)); clear s5 t5)
              | (go_at_call 12; refine (text_nil _ _ _ _ S5.out (by have := AG.out.t; omega)).mono ?_; rintro r Wb ⟨rfl, t6⟩; have Tb := hid (Ta.out.trans t6); have HTb := hid (HTa.out.trans t6); have PGb := hid (PGa.out.tch t6); have M1b := hid (t6.obj M1a.out (by simp)); clear t6)
              | (go_at_call 11; refine (HPB.out _ (HE.out.below (Tb.out.below (Nat.le_refl _) (by simp))) (HK.out.tch Tb.out) (HW.out.tch Tb.out (by simp))).mono ?_; rintro r Wd ⟨ra, rc, ds, rfl, hab, t7, pg⟩; rw [AG.out.a] at hab ⊢; have Td := hid (Tb.out.trans t7); have HTd := hid (HTb.out.trans t7); have PGd := hid (PGb.out.tch t7); have M1d := hid (t7.obj M1b.out (by simp)); have PH := hid pg.plp; have HAD := hid hab; clear hab t7 pg))
            have M2 := hid (heap_alloc_new Wd (.cells #[.slice ra ds.length rc] 29))
            have M1f := hid (((Tch.refl [] Wd).alloc (.cells #[.slice ra ds.length rc] 29)).obj M1d.out (by simp))
            have Tf := hid (Td.out.alloc (.cells #[.slice ra ds.length rc] 29))
            have HTf := hid (HTd.out.alloc (.cells #[.slice ra ds.length rc] 29))
            have PGf := hid (PGd.out.tch ((Tch.refl [] Wd).alloc (.cells #[.slice ra ds.length rc] 29)))
            have PHf := hid (PH.out.tch ((Tch.refl [] Wd).alloc (.cells #[.slice ra ds.length rc] 29)))
            generalize Wd.alloc (.cells #[.slice ra ds.length rc] 29) = Wf at M2 M1f Tf HTf PGf PHf ⊢
            generalize Wd.heap.size = qd at M2 ⊢
            have lf1 := lt_of_obj M1f.out
            have mf1 : Wf.cell? ⟨qp, 0, none⟩ = some (.slice qa cs.length qc) := cell_of_row _ _ 0 _ _ _ M1f.out
            have lf2 := lt_of_obj M2.out
            have mf2 : Wf.cell? ⟨qd, 0, none⟩ = some (.slice ra ds.length rc) := cell_of_row _ _ 0 _ _ _ M2.out
            clear m1 lm1
            have HCK := hid (check_p _ cs Wf (HK.out.tch Tf.out) PGf.out (by rw [HAC.out]; exact AG.out.b) (by rw [HAC.out]; exact AG.out.n))
            rw [HAC.out, AG.out.c] at HCK
            go_wp2_with (first
              | (go_at_call 14; refine HCK.out.mono ?_; rintro r Wg ⟨rfl, t8⟩; have HTg := hid (HTf.out.trans t8); have PGg := hid (PGf.out.tch t8); have PHg := hid (PHf.out.tch t8); have Mg1 := hid (t8.obj M1f.out (by simp)); have Mg2 := hid (t8.obj M2.out (by simp)); have lg1 := lt_of_obj Mg1.out; have mg1 : Wg.cell? ⟨qp, 0, none⟩ = some (.slice qa cs.length qc) := cell_of_row _ _ 0 _ _ _ Mg1.out; clear t8)
              | (go_at_call 15; refine (plain_true _ cs _ PGg.out).mono ?_; rintro r Wh ⟨rfl, t9⟩; have HTh := hid (HTg.out.trans t9); have PGh := hid (PGg.out.tch t9); have PHh := hid (PHg.out.tch t9); have Mh1 := hid (t9.obj Mg1.out (by simp)); have Mh2 := hid (t9.obj Mg2.out (by simp)); have lh1 := lt_of_obj Mh1.out; have mh1 : Wh.cell? ⟨qp, 0, none⟩ = some (.slice qa cs.length qc) := cell_of_row _ _ 0 _ _ _ Mh1.out; have lh2 := lt_of_obj Mh2.out; have mh2 : Wh.cell? ⟨qd, 0, none⟩ = some (.slice ra ds.length rc) := cell_of_row _ _ 0 _ _ _ Mh2.out; clear t9)
              | (go_at_call 13; refine (same_true _ _ cs ds _ PGh.out PHh.out (HAC.out.trans HAD.out.symm)).mono ?_; rintro r Wk ⟨rfl, tk⟩; have HTk := hid (HTh.out.trans tk); clear tk))
            go_roundw
            case rel => exact ⟨k + 1, by go_num, by omega, HTk.out⟩
            case measure => simp [intOf]; omega
          · have WG := hid wg
            have her : (er == 0) = false := by simpa using wg.e
            have hp0 := wg.p.1
            have hp1 := wg.p.2
            clear wg hok
            go_upto_region 25 with (go_at_call 11; refine (HPA.out _ (HE.out.below (T10.out.below (Nat.le_refl _) (by simp))) (HK.out.tch T10.out) (HW.out.tch T10.out (by simp))).mono ?_; rintro r Wp ⟨qa, qc, cs, rfl, hab, tp, pg⟩; rw [WG.out.r] at hab ⊢; have hnil : cs = [] := List.map_eq_nil_iff.1 hab; subst hnil; have Tp := hid (T10.out.trans tp); have HTp := hid (HT.out.trans tp); clear hab tp pg)
            have T1q := hid (Tp.out.alloc (.cells #[.slice qa 0 qc] 29))
            have HT1 := hid (HTp.out.alloc (.cells #[.slice qa 0 qc] 29))
            generalize Wp.alloc (.cells #[.slice qa 0 qc] 29) = Wq at T1q HT1 ⊢
            go_upto_region 26 with (go_at_call 16; refine (split_w htn WG.out _ (HE.out.below (T1q.out.below (Nat.le_refl _) (by simp)))).mono ?_; rintro r Ws ⟨sv, sp, sf, rfl, hsf, ts⟩; have HTs := hid (HT1.out.trans ts); have HSF := hid hsf; clear hsf ts)
            rcases HSF.out with e | ⟨e1, e2⟩
            · subst e
              go_wp2_with fail
              go_roundw
              case rel => exact ⟨k + 1, by go_num, by omega, HTs.out⟩
              case measure => simp [intOf]; omega
            · subst e1 e2
              have her2 : (sf != 0) = true := by simpa using WG.out.e
              go_wp2_with fail
              go_roundw
              case rel => exact ⟨k + 1, by go_num, by omega, HTs.out⟩
              case measure => simp [intOf]; omega
        · go_wp2_with fail
          go_ret
          exact ⟨rfl, T10.out⟩
    · go_wp2_with (go_at_call 8; refine (HL.out _ (HS.out.tch T1.out)).mono ?_; rintro r W2 ⟨rfl, g2⟩; have T2 := hid (T1.out.trans g2.tch); clear g2)
      go_ret
      exact ⟨rfl, T2.out⟩
  · have hlf : lightB s = false := by simpa using hlb
    rw [hlf] at HL
    clear hlb hlf HPG
    go_wp2_with (go_at_call 8; refine (HL.out _ (HS.out.tch T1.out)).mono ?_; rintro r W2 ⟨rfl, g2⟩; have T2 := hid (T1.out.trans g2.tch); clear g2)
    go_ret
    exact ⟨rfl, T2.out⟩
end Go.Proofs.YtgegdelinckfoaaGreatDoor


/- ParseAny: the walk. -/
set_option linter.unusedSimpArgs false
set_option linter.unusedVariables false
namespace Go.Proofs.YtgegdelinckfoaaGreatDoor
open Go.RowKit Go.Sort

theorem any_walk (raw : ByteArray) (s : SmlM) (cut put what : Int) (w : World) (hE : Env w) (hK : Kinds w) (hW : WordsH w) (hs : SmlOk w s) (hr : raw.size ≤ maxLen) (hc : 0 ≤ cut ∧ cut ≤ 65535) (hp : 0 ≤ put ∧ put ≤ 255) (hw : 0 ≤ what ∧ what ≤ 255) :
    Calls Tryz.prog 4 #[.string raw, .agg #[.int .u8 s.r, .bool s.bare, s.bv], .int .u16 cut, .int .u8 put, .int .u8 what] w fun r w' => r = .returned (.bool true) ∧ Tch [] w w' := by
  have h : what % 3 = 0 ∨ what % 3 = 1 ∨ what % 3 = 2 := by omega
  rcases h with h | h | h
  · exact any_walkA raw s cut put what w hE hK hW hs hr hc hp hw h
  · exact any_walkB raw s cut put what w hE hK hW hs hr hc hp hw h
  · exact any_walkC raw s cut put what w hE hK hW hs hr hc hp hw h
end Go.Proofs.YtgegdelinckfoaaGreatDoor

