/- A round of IrInstrs' loop, at some kinds. -/
import Derived.Test.YteiekjijbaohoaaDoorRndC
import Derived.Deep.RegionHeld3
set_option linter.unusedSimpArgs false
set_option linter.unusedVariables false
namespace Go.Proofs.YteiekjijbaohoaaDoor
open Go.RowKit Go.Sort Go.Maps

set_option maxRecDepth 100000 in
set_option maxHeartbeats 2000000 in
theorem round_2a (n s : Int) : RoundAt 2 3 n s := by
  intro c hc Q d a b kv kb sb w0 wr i u0 u1 u2 u3 u4 u5 u7 u8 u9 u10 u11 u12 u13 u14 u15 u16 u17 u18 u19 u20 u21 u22 u23 u24 u25 u26 u27 u28 u32 u33 u34 u35 u36 u37 u38 u39 u40 u41 u42 u43 u44 u45 u46 u47 u48 u49 u50 u51 u52 u53 u54 u55 u56 u57 u58 u59 u60 u61 u62 u63 u64 u65 u66 u67 u68 u69 u70 u71 u72 u73 u74 u75 u76 u77 u78 u79 u80 u81 u82 u83 u84 u85 u86 u87 u88 u89 u90 u91 u92 u93 u94 u95 u96 u97 u98 u99 u100 u101 u102 u103 u104 u105 u106 u107 u108 u109 u110 u111 u112 u113 u114 u115 u116 u117 u118 u119 u120 u121 u122 u123 u124 u125 u126 u127 u128 u129 u130 u131 u132 u133 u134 u135 u136 u137 u138 u139 u140 u141 u142 u143 u144 u145 u146 u147 u148 u149 u150 u151 u152 u153 u154 u155 u156 u157 u158 u159 u160 u161 u162 u163 u164 u165 u166 u167 u168 u169 u170 u171 u172 u173 u174 u175 u176 u177 u178 u179 u180 u181 u182 u183 u184 u185 u186 u187 u188 u189 u190 u191 u192 u193 u194 u195 u196 u197 u198 u199 u200 u201 u202 u203 u204 u205 u206 u207 u208 u209 u210 u211 u212 u213 u214 u215 u216 u217 u218 u219 u220 u221 u222 u223 u224 u225 u226 u227 u228 u229 u230 u231 u232 u233 u234 u235 u236 u237 u238 u239 u240 u241 u242 u243 u244 u245 u246 u247 u248 u249 u250 u251 u252 u253 u254 u255 u256 u257 u258 u259 u260 u261 u262 u263 u264 u265 u266 u267 u268 u269 u270 u271 u272 u273 u274 u275 u276 u277 u278 u279 u280 hk hg kd hi hin hend
  have h2 : (Tryd.f3.body).bind firstLoop = some _ := rfl
  obtain rfl := Option.some.inj (h2.symm.trans hc)
  clear hc h2
  have HEND := hid hend
  have HK := hid hk
  have HG := hid hg
  clear hend hk hg
  obtain ⟨p0, p1, p2, p3, p4, p5, p6⟩ := hin
  simp only at p0 p1 p2 p3 p4 p5 p6
  have hm : Tryd.prog.follows .mixedOrders = true := by kernel_rfl
  have hkb := cell_lt kd
  simp only at hkb
  have HSE : Hid (∀ W, Gr w0 W → Calls Tryd.prog 11 #[.agg #[.int .u8 2, .int .u8 3, .int .i64 d, .int .i64 a, .int .i64 b, .int .i64 n, .int .i64 s]] W fun e w' => e = .returned (.tuple #[.int .i64 d, .bool true]) ∧ Gr W w') := fun W g => by
    have := sets_any (2) (by omega) 3 d a b n s W (HK.out.gr g)
    exact this
  have HTU : Hid (∀ W, Gr w0 W → W.cell? ⟨kb, 0, none⟩ = some (.int .i64 kv) → Calls Tryd.prog 12 #[.agg #[.int .u8 2, .int .u8 3, .int .i64 d, .int .i64 a, .int .i64 b, .int .i64 n, .int .i64 s], .func (.func 13) #[] #[.pointer (some ⟨kb, 0, none⟩)]] W fun e w' => e = .returned (.agg #[.int .u8 2, .int .u8 3, .int .i64 d, .int .i64 (xr a kv), .int .i64 (xr b kv), .int .i64 n, .int .i64 s]) ∧ Gr W w') := fun W g hc => by
    have := turned_any (2) (by omega) 3 d a b n s kv kb W (HK.out.gr g) hc
    exact this
  have HON : Hid (∀ W, Gr w0 W → Calls Tryd.prog 14 #[.agg #[.int .u8 2, .int .u8 3, .int .i64 d, .int .i64 a, .int .i64 b, .int .i64 n, .int .i64 s]] W fun e w' => e = .returned (.agg #[.int .u8 2, .int .u8 3, .int .i64 d, .int .i64 a, .int .i64 b, .int .i64 0, .int .i64 0]) ∧ Gr W w') := fun W g => by
    have := only_any (2) (by omega) 3 d a b n s W (HK.out.gr g)
    exact this
  have HRZ : Hid (∀ W, Gr w0 W → Calls Tryd.prog 16 #[.agg #[.int .u8 2, .int .u8 3, .int .i64 d, .int .i64 a, .int .i64 b, .int .i64 n, .int .i64 s]] W fun e w' => ∃ v, e = .returned v ∧ Sl w' 3 1 v 2 (ivals [a, b]) ∧ Gr W w') := fun W g => by
    have := reads_any (2) (by omega) (3) (d) (a) (b) (n) (s) W (HK.out.gr g)
    exact this.mono fun e w' ⟨v, h1, h2, h3, _⟩ => ⟨v, h1, h2, h3⟩
  have HRT : Hid (∀ W, Gr w0 W → Calls Tryd.prog 16 #[.agg #[.int .u8 2, .int .u8 3, .int .i64 d, .int .i64 (xr a kv), .int .i64 (xr b kv), .int .i64 n, .int .i64 s]] W fun e w' => ∃ v, e = .returned v ∧ Sl w' 3 1 v 2 (ivals [xr a kv, xr b kv]) ∧ Gr W w') := fun W g => by
    have := reads_any (2) (by omega) (3) (d) ((xr a kv)) ((xr b kv)) (n) (s) W (HK.out.gr g)
    exact this.mono fun e w' ⟨v, h1, h2, h3, _⟩ => ⟨v, h1, h2, h3⟩
  have HRO : Hid (∀ W, Gr w0 W → Calls Tryd.prog 16 #[.agg #[.int .u8 2, .int .u8 3, .int .i64 d, .int .i64 a, .int .i64 b, .int .i64 0, .int .i64 0]] W fun e w' => ∃ v, e = .returned v ∧ Sl w' 3 1 v 2 (ivals [a, b]) ∧ Gr W w') := fun W g => by
    have := reads_any (2) (by omega) (3) (d) (a) (b) (0) (0) W (HK.out.gr g)
    exact this.mono fun e w' ⟨v, h1, h2, h3, _⟩ => ⟨v, h1, h2, h3⟩
  go_wp2_with (fail)
  refine (HSE.out _ ((HG.out.alloc _).alloc _)).mono ?_
  rintro e w3 ⟨rfl, hg3⟩
  dsimp only
  have z0 := Gr.boxed (w := wr) (((Gr.refl _).alloc _).trans hg3) 0 (u := .int .u8 2) rfl
  have z1 := Gr.boxed (w := wr) (((Gr.refl _).alloc _).trans hg3) 1 (u := .int .u8 3) rfl
  have z2 := Gr.boxed (w := wr) (((Gr.refl _).alloc _).trans hg3) 2 (u := .int .i64 d) rfl
  have z3 := Gr.boxed (w := wr) (((Gr.refl _).alloc _).trans hg3) 3 (u := .int .i64 a) rfl
  have z4 := Gr.boxed (w := wr) (((Gr.refl _).alloc _).trans hg3) 4 (u := .int .i64 b) rfl
  have z5 := Gr.boxed (w := wr) (((Gr.refl _).alloc _).trans hg3) 5 (u := .int .i64 n) rfl
  have z6 := Gr.boxed (w := wr) (((Gr.refl _).alloc _).trans hg3) 6 (u := .int .i64 s) rfl
  have kd3 := (((Gr.refl wr).alloc _).alloc _).trans hg3 |>.val kd
  have SR : Hid (Sl w3 3 1 (.slice (some ⟨wr.heap.size + 1, 0, none⟩) 2 2) 2 (ivals [a, b])) := (sl_new _ _ (by simp) 3 1 2 (ivals [a, b]) rfl (by simp [maxLen])).gr hg3
  have HG3 := hid (((HG.out.alloc _).alloc _).trans hg3)
  have HG3r := hid ((((Gr.refl wr).alloc _).alloc _).trans hg3)
  clear hg3
  go_wp2_with (fail)
  refine (HTU.out _ HG3.out kd3).mono ?_
  rintro e w4 ⟨rfl, hg4⟩
  dsimp only
  replace z0 := hg4.val z0
  replace z1 := hg4.val z1
  replace z2 := hg4.val z2
  replace z3 := hg4.val z3
  replace z4 := hg4.val z4
  replace z5 := hg4.val z5
  replace z6 := hg4.val z6
  replace kd3 := hg4.val kd3
  replace SR := hid (SR.out.gr hg4)
  have HG4 := hid (HG3.out.trans hg4)
  have HG4r := hid (HG3r.out.trans hg4)
  clear hg4 HG3 HG3r
  go_wp2_with (fail)
  have GA := (Gr.refl w4).alloc (.cells #[.int .u8 2, .int .u8 3, .int .i64 d, .int .i64 (xr a kv), .int .i64 (xr b kv), .int .i64 n, .int .i64 s] 25)
  replace z0 := GA.val z0
  replace z1 := GA.val z1
  replace z2 := GA.val z2
  replace z3 := GA.val z3
  replace z4 := GA.val z4
  replace z5 := GA.val z5
  replace z6 := GA.val z6
  replace kd3 := GA.val kd3
  have t0 : (w4.alloc (.cells #[.int .u8 2, .int .u8 3, .int .i64 d, .int .i64 (xr a kv), .int .i64 (xr b kv), .int .i64 n, .int .i64 s] 25)).cell? ⟨w4.heap.size, 0, none⟩ = some (.int .u8 2) := (Gr.refl _).boxed 0 rfl
  have t1 : (w4.alloc (.cells #[.int .u8 2, .int .u8 3, .int .i64 d, .int .i64 (xr a kv), .int .i64 (xr b kv), .int .i64 n, .int .i64 s] 25)).cell? ⟨w4.heap.size, 1, none⟩ = some (.int .u8 3) := (Gr.refl _).boxed 1 rfl
  have t2 : (w4.alloc (.cells #[.int .u8 2, .int .u8 3, .int .i64 d, .int .i64 (xr a kv), .int .i64 (xr b kv), .int .i64 n, .int .i64 s] 25)).cell? ⟨w4.heap.size, 2, none⟩ = some (.int .i64 d) := (Gr.refl _).boxed 2 rfl
  have t3 : (w4.alloc (.cells #[.int .u8 2, .int .u8 3, .int .i64 d, .int .i64 (xr a kv), .int .i64 (xr b kv), .int .i64 n, .int .i64 s] 25)).cell? ⟨w4.heap.size, 3, none⟩ = some (.int .i64 (xr a kv)) := (Gr.refl _).boxed 3 rfl
  have t4 : (w4.alloc (.cells #[.int .u8 2, .int .u8 3, .int .i64 d, .int .i64 (xr a kv), .int .i64 (xr b kv), .int .i64 n, .int .i64 s] 25)).cell? ⟨w4.heap.size, 4, none⟩ = some (.int .i64 (xr b kv)) := (Gr.refl _).boxed 4 rfl
  have t5 : (w4.alloc (.cells #[.int .u8 2, .int .u8 3, .int .i64 d, .int .i64 (xr a kv), .int .i64 (xr b kv), .int .i64 n, .int .i64 s] 25)).cell? ⟨w4.heap.size, 5, none⟩ = some (.int .i64 n) := (Gr.refl _).boxed 5 rfl
  have t6 : (w4.alloc (.cells #[.int .u8 2, .int .u8 3, .int .i64 d, .int .i64 (xr a kv), .int .i64 (xr b kv), .int .i64 n, .int .i64 s] 25)).cell? ⟨w4.heap.size, 6, none⟩ = some (.int .i64 s) := (Gr.refl _).boxed 6 rfl
  replace SR := hid (SR.out.gr GA)
  replace HG4 := hid (HG4.out.trans GA)
  replace HG4r := hid (HG4r.out.trans GA)
  clear GA
  generalize w4.alloc (.cells #[.int .u8 2, .int .u8 3, .int .i64 d, .int .i64 (xr a kv), .int .i64 (xr b kv), .int .i64 n, .int .i64 s] 25) = W4 at *
  generalize w4.heap.size = bt at *
  generalize wr.heap.size + 1 = br at *
  generalize hbz : wr.heap.size = bz at *
  clear hbz
  have rc0 : W4.cell? ⟨br, 0, none⟩ = some (.int .i64 a) := by simpa using cells_ints (l := [a, b]) SR.out 0 (by simp)
  have rc1 : W4.cell? ⟨br, 1, none⟩ = some (.int .i64 b) := by simpa using cells_ints (l := [a, b]) SR.out 1 (by simp)
  have lr := cell_lt rc0
  simp only at lr
  have lz := cell_lt z0
  have lt := cell_lt t0
  have lk := cell_lt kd3
  simp only at lz lt lk
  refine wp_loop_rounds 3 ?_
  rw [rounds_succ]
  go_wp2_with (first | (at_builtin; refine wpList_append_sl _ rfl _ _ 32 rfl Tryd.underlying32 info_int rfl (by decide) (.slice none 0 0) rfl (Sl.nil _ _ _) ⟨_, 0, none⟩ 1 1 rfl [.int .i64 (xr a kv)] rfl (cells_new _ _ (by simp) [.int .i64 (xr a kv)] 3) (by simp [Value.oneCell']) (by decide) ?_; intro vq0 wq0 hq0 hQ0))
  obtain ⟨gq0, hB0⟩ := hQ0 W4 ((Gr.refl _).alloc _) (by simp [blks])
  have z0q := gq0.val z0
  have z1q := gq0.val z1
  have z2q := gq0.val z2
  have z3q := gq0.val z3
  have z4q := gq0.val z4
  have z5q := gq0.val z5
  have z6q := gq0.val z6
  have t0q := gq0.val t0
  have t1q := gq0.val t1
  have t2q := gq0.val t2
  have t3q := gq0.val t3
  have t4q := gq0.val t4
  have t5q := gq0.val t5
  have t6q := gq0.val t6
  have kd3q := gq0.val kd3
  have rc0q := gq0.val rc0
  have rc1q := gq0.val rc1
  have lzq := cell_lt z0q
  have ltq := cell_lt t0q
  have lkq := cell_lt kd3q
  have lrq := cell_lt rc0q
  simp only at lzq ltq lkq lrq
  rw [rounds_succ]
  go_wp2_with (first | (at_builtin; refine wpList_append_sl _ rfl _ _ 32 rfl Tryd.underlying32 info_int rfl (by decide) vq0 rfl (hq0.gr ((Gr.refl _).alloc _)) ⟨_, 0, none⟩ 1 1 rfl [.int .i64 (xr b kv)] rfl (cells_new _ _ (by simp) [.int .i64 (xr b kv)] 3) (by simp [Value.oneCell']) (by decide) ?_; intro vq1 wq1 hq1 hQ1))
  obtain ⟨gq1, hB1⟩ := hQ1 W4 (gq0.alloc _) hB0
  replace z0q := gq1.val z0
  replace z1q := gq1.val z1
  replace z2q := gq1.val z2
  replace z3q := gq1.val z3
  replace z4q := gq1.val z4
  replace z5q := gq1.val z5
  replace z6q := gq1.val z6
  replace t0q := gq1.val t0
  replace t1q := gq1.val t1
  replace t2q := gq1.val t2
  replace t3q := gq1.val t3
  replace t4q := gq1.val t4
  replace t5q := gq1.val t5
  replace t6q := gq1.val t6
  replace kd3q := gq1.val kd3
  replace rc0q := gq1.val rc0
  replace rc1q := gq1.val rc1
  replace lzq := cell_lt z0q
  replace ltq := cell_lt t0q
  replace lkq := cell_lt kd3q
  replace lrq := cell_lt rc0q
  simp only at lzq ltq lkq lrq
  rw [rounds_succ]
  go_wp2_with (fail)
  clear z0 z1 z2 z3 z4 z5 z6 t0 t1 t2 t3 t4 t5 t6 kd3 rc0 rc1 lz lt lk lr lzq ltq lkq lrq
  have z0 := z0q
  clear z0q
  have z1 := z1q
  clear z1q
  have z2 := z2q
  clear z2q
  have z3 := z3q
  clear z3q
  have z4 := z4q
  clear z4q
  have z5 := z5q
  clear z5q
  have z6 := z6q
  clear z6q
  have t0 := t0q
  clear t0q
  have t1 := t1q
  clear t1q
  have t2 := t2q
  clear t2q
  have t3 := t3q
  clear t3q
  have t4 := t4q
  clear t4q
  have t5 := t5q
  clear t5q
  have t6 := t6q
  clear t6q
  have kd3 := kd3q
  clear kd3q
  have rc0 := rc0q
  clear rc0q
  have rc1 := rc1q
  clear rc1q
  have HG5 := hid (HG4.out.trans gq1)
  have HG5r := hid (HG4r.out.trans gq1)
  replace SR := hid (SR.out.gr gq1)
  have ST : Hid (Sl wq1 3 1 vq1 2 (ivals [xr a kv, xr b kv])) := hq1
  clear hq0 hQ0 gq0 hB0 hq1 hQ1 gq1 hB1 HG4 HG4r
  refine (HON.out _ HG5.out).mono ?_
  rintro e w6 ⟨rfl, hg6⟩
  dsimp only
  replace z0 := hg6.val z0
  replace z1 := hg6.val z1
  replace z2 := hg6.val z2
  replace z3 := hg6.val z3
  replace z4 := hg6.val z4
  replace z5 := hg6.val z5
  replace z6 := hg6.val z6
  replace t0 := hg6.val t0
  replace t1 := hg6.val t1
  replace t2 := hg6.val t2
  replace t3 := hg6.val t3
  replace t4 := hg6.val t4
  replace t5 := hg6.val t5
  replace t6 := hg6.val t6
  replace kd3 := hg6.val kd3
  replace SR := hid (SR.out.gr hg6)
  replace ST := hid (ST.out.gr hg6)
  replace HG5 := hid (HG5.out.trans hg6)
  replace HG5r := hid (HG5r.out.trans hg6)
  clear hg6
  have lz := cell_lt z0
  have lt := cell_lt t0
  simp only at lz lt
  go_wp2_with (fail)
  refine (HRZ.out _ (HG5.out.alloc _)).mono ?_
  rintro e w7 ⟨v7, rfl, hs7, hg7⟩
  dsimp only
  have GA := ((Gr.refl w6).alloc (.cells #[.int .u8 2, .int .u8 3, .int .i64 d, .int .i64 a, .int .i64 b, .int .i64 0, .int .i64 0] 25)).trans hg7
  replace z0 := GA.val z0
  replace z1 := GA.val z1
  replace z2 := GA.val z2
  replace z3 := GA.val z3
  replace z4 := GA.val z4
  replace z5 := GA.val z5
  replace z6 := GA.val z6
  replace t0 := GA.val t0
  replace t1 := GA.val t1
  replace t2 := GA.val t2
  replace t3 := GA.val t3
  replace t4 := GA.val t4
  replace t5 := GA.val t5
  replace t6 := GA.val t6
  replace kd3 := GA.val kd3
  replace SR := hid (SR.out.gr GA)
  replace ST := hid (ST.out.gr GA)
  replace HG5 := hid (HG5.out.trans GA)
  replace HG5r := hid (HG5r.out.trans GA)
  have o0 := hg7.boxed 0 (u := .int .u8 2) rfl
  have o1 := hg7.boxed 1 (u := .int .u8 3) rfl
  have o2 := hg7.boxed 2 (u := .int .i64 d) rfl
  have o3 := hg7.boxed 3 (u := .int .i64 a) rfl
  have o4 := hg7.boxed 4 (u := .int .i64 b) rfl
  have o5 := hg7.boxed 5 (u := .int .i64 0) rfl
  have o6 := hg7.boxed 6 (u := .int .i64 0) rfl
  generalize w6.heap.size = bo at *
  clear GA hg7 lz lt
  go_wp2_with (fail)
  have HE := equal_ints v7 (.slice (some ⟨br, 0, none⟩) 2 2) [a, b] [a, b] _ hs7 SR.out (by simp) (by simp)
  rw [show sameB [a, b] [a, b] = true by simp [sameB]] at HE
  refine HE.mono ?_
  clear HE
  rintro e w8 ⟨rfl, hg8⟩
  dsimp only
  replace z0 := hg8.val z0
  replace z1 := hg8.val z1
  replace z2 := hg8.val z2
  replace z3 := hg8.val z3
  replace z4 := hg8.val z4
  replace z5 := hg8.val z5
  replace z6 := hg8.val z6
  replace t0 := hg8.val t0
  replace t1 := hg8.val t1
  replace t2 := hg8.val t2
  replace t3 := hg8.val t3
  replace t4 := hg8.val t4
  replace t5 := hg8.val t5
  replace t6 := hg8.val t6
  replace kd3 := hg8.val kd3
  replace o0 := hg8.val o0
  replace o1 := hg8.val o1
  replace o2 := hg8.val o2
  replace o3 := hg8.val o3
  replace o4 := hg8.val o4
  replace o5 := hg8.val o5
  replace o6 := hg8.val o6
  replace SR := hid (SR.out.gr hg8)
  replace ST := hid (ST.out.gr hg8)
  replace HG5 := hid (HG5.out.trans hg8)
  replace HG5r := hid (HG5r.out.trans hg8)
  clear hg8 hs7
  go_wp2_with (fail)
  refine (HRT.out _ HG5.out).mono ?_
  rintro e w9 ⟨v9, rfl, hs9, hg9⟩
  dsimp only
  replace z0 := hg9.val z0
  replace z1 := hg9.val z1
  replace z2 := hg9.val z2
  replace z3 := hg9.val z3
  replace z4 := hg9.val z4
  replace z5 := hg9.val z5
  replace z6 := hg9.val z6
  replace t0 := hg9.val t0
  replace t1 := hg9.val t1
  replace t2 := hg9.val t2
  replace t3 := hg9.val t3
  replace t4 := hg9.val t4
  replace t5 := hg9.val t5
  replace t6 := hg9.val t6
  replace kd3 := hg9.val kd3
  replace o0 := hg9.val o0
  replace o1 := hg9.val o1
  replace o2 := hg9.val o2
  replace o3 := hg9.val o3
  replace o4 := hg9.val o4
  replace o5 := hg9.val o5
  replace o6 := hg9.val o6
  replace SR := hid (SR.out.gr hg9)
  replace ST := hid (ST.out.gr hg9)
  replace HG5 := hid (HG5.out.trans hg9)
  replace HG5r := hid (HG5r.out.trans hg9)
  clear hg9
  go_wp2_with (fail)
  have HE := equal_ints v9 vq1 [xr a kv, xr b kv] [xr a kv, xr b kv] _ hs9 ST.out (by simp) (by simp)
  rw [show sameB [xr a kv, xr b kv] [xr a kv, xr b kv] = true by simp [sameB]] at HE
  refine HE.mono ?_
  clear HE
  rintro e w10 ⟨rfl, hg10⟩
  dsimp only
  replace z0 := hg10.val z0
  replace z1 := hg10.val z1
  replace z2 := hg10.val z2
  replace z3 := hg10.val z3
  replace z4 := hg10.val z4
  replace z5 := hg10.val z5
  replace z6 := hg10.val z6
  replace t0 := hg10.val t0
  replace t1 := hg10.val t1
  replace t2 := hg10.val t2
  replace t3 := hg10.val t3
  replace t4 := hg10.val t4
  replace t5 := hg10.val t5
  replace t6 := hg10.val t6
  replace kd3 := hg10.val kd3
  replace o0 := hg10.val o0
  replace o1 := hg10.val o1
  replace o2 := hg10.val o2
  replace o3 := hg10.val o3
  replace o4 := hg10.val o4
  replace o5 := hg10.val o5
  replace o6 := hg10.val o6
  replace SR := hid (SR.out.gr hg10)
  replace ST := hid (ST.out.gr hg10)
  replace HG5 := hid (HG5.out.trans hg10)
  replace HG5r := hid (HG5r.out.trans hg10)
  clear hg10 hs9
  go_wp2_with (fail)
  have HPU : Hid (∀ W, Calls Tryd.prog 17 #[.agg #[.int .u8 2, .int .u8 3, .int .i64 d, .int .i64 a, .int .i64 b, .int .i64 n, .int .i64 s]] W fun e w' => e = .returned (.bool false) ∧ Gr W w') := fun W => by
    have := pure_any (2) 3 d a b n s W
    rwa [show pureB (2) 3 = false by simp [pureB, trapsB]] at this
  have HOO : Hid (∀ W, Gr w0 W → Calls Tryd.prog 14 #[.agg #[.int .u8 2, .int .u8 3, .int .i64 d, .int .i64 a, .int .i64 b, .int .i64 0, .int .i64 0]] W fun e w' => e = .returned (.agg #[.int .u8 2, .int .u8 3, .int .i64 d, .int .i64 a, .int .i64 b, .int .i64 0, .int .i64 0]) ∧ Gr W w') := fun W g => by
    have := only_any (2) (by omega) (3) (d) (a) (b) (0) (0) W (HK.out.gr g)
    exact this
  refine wp_region_noPanic ?_
  refine wp_region_held_drew (S := fun w' => w'.cell? ⟨bz, 0, none⟩ = some (.int .u8 2) ∧ w'.cell? ⟨bz, 1, none⟩ = some (.int .u8 3) ∧ w'.cell? ⟨bz, 2, none⟩ = some (.int .i64 d) ∧ w'.cell? ⟨bz, 3, none⟩ = some (.int .i64 a) ∧ w'.cell? ⟨bz, 4, none⟩ = some (.int .i64 b) ∧ w'.cell? ⟨bz, 5, none⟩ = some (.int .i64 n) ∧ w'.cell? ⟨bz, 6, none⟩ = some (.int .i64 s) ∧ w'.cell? ⟨bo, 0, none⟩ = some (.int .u8 2) ∧ w'.cell? ⟨bo, 1, none⟩ = some (.int .u8 3) ∧ w'.cell? ⟨bo, 2, none⟩ = some (.int .i64 d) ∧ w'.cell? ⟨bo, 3, none⟩ = some (.int .i64 a) ∧ w'.cell? ⟨bo, 4, none⟩ = some (.int .i64 b) ∧ w'.cell? ⟨bo, 5, none⟩ = some (.int .i64 0) ∧ w'.cell? ⟨bo, 6, none⟩ = some (.int .i64 0) ∧ Gr w10 w') hm ⟨z0, z1, z2, z3, z4, z5, z6, o0, o1, o2, o3, o4, o5, o6, (Gr.refl _).drew⟩ (fun hHeld => ?_)
  refine wpAnyH_take (i := 0) (oi := { dst := some 172, op := Go.Op.load 25 (Go.Operand.tmp 10), type := 25, pos := "law.go:110", after := #[], guard := none }) (v := ?_) rfl (by kernel_rfl) (by kernel_rfl) (by kernel_rfl) (fun _ _ _ h => h) (Or.inl ⟨by rfl, ?_⟩) (by assumption) ?_
  rotate_left
  (intro w hSw; (try dsimp only at hSw); go_simp; try (with_reducible rfl))
  simp only [Act.put, List.setIfInBounds_toArray, List.set_cons_zero, List.set_cons_succ]
  refine wpAnyH_take (i := 2) (oi := { dst := some 174, op := Go.Op.move (Go.Operand.tmp 20), type := 4, pos := "law.go:110", after := #[], guard := none }) (v := ?_) rfl (by kernel_rfl) (by kernel_rfl) (by kernel_rfl) (fun _ _ _ h => h) (Or.inl ⟨by rfl, ?_⟩) (by assumption) ?_
  rotate_left
  (intro w hSw; (try dsimp only at hSw); go_simp; try (with_reducible rfl))
  simp only [Act.put, List.setIfInBounds_toArray, List.set_cons_zero, List.set_cons_succ]
  refine wpAnyH_ready (rs := [1]) (by kernel_rfl) (by simp) (AllReadyH.cons (o := { dst := some 173, op := Go.Op.call { callee := Go.Callee.value (Go.Operand.func 17), args := #[Go.Operand.tmp 172], argTypes := #[25] }, type := 4, pos := "law.go:110", after := #[{ on := 0, ground := Go.Ground.data }], guard := none }) rfl (fun K hK => ?_) AllReadyH.nil)
  go_simp
  first | (go_at_call 17; refine (HPU.out _).mono ?_; rintro e w11 ⟨rfl, hgx⟩) | (go_at_call 14; refine (HOO.out _ (HG5.out.trans hHeld.2.2.2.2.2.2.2.2.2.2.2.2.2.2)).mono ?_; rintro e w12 ⟨rfl, hgx⟩) | (go_at_call 16; refine (HRO.out _ (HG5.out.trans hHeld.2.2.2.2.2.2.2.2.2.2.2.2.2.2)).mono ?_; rintro e w13 ⟨v13, rfl, hs13, hgx⟩) | (go_at_call 15; have HE := equal_ints v13 (.slice (some ⟨br, 0, none⟩) 2 2) [a, b] [a, b] _ hs13 (SR.out.gr hHeld.2.2.2.2.2.2.2.2.2.2.2.2.2.2) (by simp) (by simp); rw [show sameB [a, b] [a, b] = true by simp [sameB]] at HE; refine HE.mono ?_; clear HE; rintro e w14 ⟨rfl, hgx⟩)
  go_simp
  refine hK.out _ _ (keep14 hgx (by assumption)) (fun hH2 => ?_)
  clear hHeld hK K
  have hHeld := hH2
  clear hH2
  try simp only [Act.put, List.setIfInBounds_toArray, List.set_cons_zero, List.set_cons_succ]
  refine wpAnyH_take (i := 3) (oi := { dst := some 175, op := Go.Op.binOp Go.BinOp.neq 4 (Go.Operand.tmp 173) (Go.Operand.tmp 174) 4, type := 4, pos := "law.go:110", after := #[{ on := 1, ground := Go.Ground.data }, { on := 2, ground := Go.Ground.data }], guard := none }) (v := ?_) rfl (by kernel_rfl) (by kernel_rfl) (by kernel_rfl) (fun _ _ _ h => h) (Or.inl ⟨by rfl, ?_⟩) (by assumption) ?_
  rotate_left
  (intro w hSw; (try dsimp only at hSw); go_simp; try (with_reducible rfl))
  simp only [Act.put, List.setIfInBounds_toArray, List.set_cons_zero, List.set_cons_succ]
  refine wpAnyH_take (i := 4) (oi := { dst := some 176, op := Go.Op.move (Go.Operand.tmp 175), type := 4, pos := "law.go:110", after := #[{ on := 3, ground := Go.Ground.data }, { on := 1, ground := Go.Ground.chain }], guard := none }) (v := ?_) rfl (by kernel_rfl) (by kernel_rfl) (by kernel_rfl) (fun _ _ _ h => h) (Or.inl ⟨by rfl, ?_⟩) (by assumption) ?_
  rotate_left
  (intro w hSw; (try dsimp only at hSw); go_simp; try (with_reducible rfl))
  simp only [Act.put, List.setIfInBounds_toArray, List.set_cons_zero, List.set_cons_succ]
  refine wpAnyH_take (i := 5) (oi := { dst := some 177, op := Go.Op.load 25 (Go.Operand.tmp 19), type := 25, pos := "law.go:110", after := #[{ on := 4, ground := Go.Ground.guard }], guard := some (4, false) }) (v := ?_) rfl (by kernel_rfl) (by kernel_rfl) (by kernel_rfl) (fun _ _ _ h => h) (Or.inl ⟨by rfl, ?_⟩) (by assumption) ?_
  rotate_left
  (intro w hSw; (try dsimp only at hSw); go_simp; try (with_reducible rfl))
  simp only [Act.put, List.setIfInBounds_toArray, List.set_cons_zero, List.set_cons_succ]
  refine wpAnyH_take (i := 6) (oi := { dst := some 178, op := Go.Op.load 25 (Go.Operand.tmp 19), type := 25, pos := "law.go:110", after := #[{ on := 4, ground := Go.Ground.guard }], guard := some (4, false) }) (v := ?_) rfl (by kernel_rfl) (by kernel_rfl) (by kernel_rfl) (fun _ _ _ h => h) (Or.inl ⟨by rfl, ?_⟩) (by assumption) ?_
  rotate_left
  (intro w hSw; (try dsimp only at hSw); go_simp; try (with_reducible rfl))
  simp only [Act.put, List.setIfInBounds_toArray, List.set_cons_zero, List.set_cons_succ]
  refine wpAnyH_ready (rs := [7]) (by kernel_rfl) (by simp) (AllReadyH.cons (o := { dst := some 179, op := Go.Op.call { callee := Go.Callee.value (Go.Operand.func 14), args := #[Go.Operand.tmp 178], argTypes := #[25] }, type := 25, pos := "law.go:110", after := #[{ on := 6, ground := Go.Ground.data }, { on := 4, ground := Go.Ground.chain }, { on := 4, ground := Go.Ground.guard }], guard := some (4, false) }) rfl (fun K hK => ?_) AllReadyH.nil)
  go_simp
  first | (go_at_call 17; refine (HPU.out _).mono ?_; rintro e w11 ⟨rfl, hgx⟩) | (go_at_call 14; refine (HOO.out _ (HG5.out.trans hHeld.2.2.2.2.2.2.2.2.2.2.2.2.2.2)).mono ?_; rintro e w12 ⟨rfl, hgx⟩) | (go_at_call 16; refine (HRO.out _ (HG5.out.trans hHeld.2.2.2.2.2.2.2.2.2.2.2.2.2.2)).mono ?_; rintro e w13 ⟨v13, rfl, hs13, hgx⟩) | (go_at_call 15; have HE := equal_ints v13 (.slice (some ⟨br, 0, none⟩) 2 2) [a, b] [a, b] _ hs13 (SR.out.gr hHeld.2.2.2.2.2.2.2.2.2.2.2.2.2.2) (by simp) (by simp); rw [show sameB [a, b] [a, b] = true by simp [sameB]] at HE; refine HE.mono ?_; clear HE; rintro e w14 ⟨rfl, hgx⟩)
  go_simp
  refine hK.out _ _ (keep14 hgx (by assumption)) (fun hH2 => ?_)
  clear hHeld hK K
  have hHeld := hH2
  clear hH2
  try simp only [Act.put, List.setIfInBounds_toArray, List.set_cons_zero, List.set_cons_succ]
  refine wpAnyH_take (i := 8) (oi := { dst := some 180, op := Go.Op.binOp Go.BinOp.neq 25 (Go.Operand.tmp 177) (Go.Operand.tmp 179) 25, type := 4, pos := "law.go:110", after := #[{ on := 5, ground := Go.Ground.data }, { on := 7, ground := Go.Ground.data }, { on := 4, ground := Go.Ground.guard }], guard := some (4, false) }) (v := ?_) rfl (by kernel_rfl) (by kernel_rfl) (by kernel_rfl) (fun _ _ _ h => h) (Or.inl ⟨by rfl, ?_⟩) (by assumption) ?_
  rotate_left
  (intro w hSw; (try dsimp only at hSw); go_simp; try (with_reducible rfl))
  simp only [Act.put, List.setIfInBounds_toArray, List.set_cons_zero, List.set_cons_succ]
  refine wpAnyH_take (i := 9) (oi := { dst := some 181, op := Go.Op.pick (Go.Operand.tmp 176) (Go.Operand.const (Go.Value.bool true)) (Go.Operand.tmp 180), type := 4, pos := "law.go:110", after := #[{ on := 4, ground := Go.Ground.data }, { on := 8, ground := Go.Ground.data }], guard := none }) (v := ?_) rfl (by kernel_rfl) (by kernel_rfl) (by kernel_rfl) (fun _ _ _ h => h) (Or.inl ⟨by rfl, ?_⟩) (by assumption) ?_
  rotate_left
  (intro w hSw; (try dsimp only at hSw); go_simp; try (with_reducible rfl))
  simp only [Act.put, List.setIfInBounds_toArray, List.set_cons_zero, List.set_cons_succ]
  refine wpAnyH_take (i := 10) (oi := { dst := some 182, op := Go.Op.move (Go.Operand.tmp 181), type := 4, pos := "law.go:110", after := #[{ on := 9, ground := Go.Ground.data }, { on := 7, ground := Go.Ground.chain }], guard := none }) (v := ?_) rfl (by kernel_rfl) (by kernel_rfl) (by kernel_rfl) (fun _ _ _ h => h) (Or.inl ⟨by rfl, ?_⟩) (by assumption) ?_
  rotate_left
  (intro w hSw; (try dsimp only at hSw); go_simp; try (with_reducible rfl))
  simp only [Act.put, List.setIfInBounds_toArray, List.set_cons_zero, List.set_cons_succ]
  refine wpAnyH_take (i := 11) (oi := { dst := some 183, op := Go.Op.load 25 (Go.Operand.tmp 19), type := 25, pos := "law.go:110", after := #[{ on := 10, ground := Go.Ground.guard }], guard := some (10, false) }) (v := ?_) rfl (by kernel_rfl) (by kernel_rfl) (by kernel_rfl) (fun _ _ _ h => h) (Or.inl ⟨by rfl, ?_⟩) (by assumption) ?_
  rotate_left
  (intro w hSw; (try dsimp only at hSw); go_simp; try (with_reducible rfl))
  simp only [Act.put, List.setIfInBounds_toArray, List.set_cons_zero, List.set_cons_succ]
  refine wpAnyH_take (i := 13) (oi := { dst := some 185, op := Go.Op.move (Go.Operand.tmp 12), type := 32, pos := "law.go:110", after := #[{ on := 10, ground := Go.Ground.guard }], guard := some (10, false) }) (v := ?_) rfl (by kernel_rfl) (by kernel_rfl) (by kernel_rfl) (fun _ _ _ h => h) (Or.inl ⟨by rfl, ?_⟩) (by assumption) ?_
  rotate_left
  (intro w hSw; (try dsimp only at hSw); go_simp; try (with_reducible rfl))
  simp only [Act.put, List.setIfInBounds_toArray, List.set_cons_zero, List.set_cons_succ]
  refine wpAnyH_ready (rs := [12]) (by kernel_rfl) (by simp) (AllReadyH.cons (o := { dst := some 184, op := Go.Op.call { callee := Go.Callee.value (Go.Operand.func 16), args := #[Go.Operand.tmp 183], argTypes := #[25] }, type := 32, pos := "law.go:110", after := #[{ on := 11, ground := Go.Ground.data }, { on := 10, ground := Go.Ground.chain }, { on := 10, ground := Go.Ground.guard }], guard := some (10, false) }) rfl (fun K hK => ?_) AllReadyH.nil)
  go_simp
  first | (go_at_call 17; refine (HPU.out _).mono ?_; rintro e w11 ⟨rfl, hgx⟩) | (go_at_call 14; refine (HOO.out _ (HG5.out.trans hHeld.2.2.2.2.2.2.2.2.2.2.2.2.2.2)).mono ?_; rintro e w12 ⟨rfl, hgx⟩) | (go_at_call 16; refine (HRO.out _ (HG5.out.trans hHeld.2.2.2.2.2.2.2.2.2.2.2.2.2.2)).mono ?_; rintro e w13 ⟨v13, rfl, hs13, hgx⟩) | (go_at_call 15; have HE := equal_ints v13 (.slice (some ⟨br, 0, none⟩) 2 2) [a, b] [a, b] _ hs13 (SR.out.gr hHeld.2.2.2.2.2.2.2.2.2.2.2.2.2.2) (by simp) (by simp); rw [show sameB [a, b] [a, b] = true by simp [sameB]] at HE; refine HE.mono ?_; clear HE; rintro e w14 ⟨rfl, hgx⟩)
  go_simp
  refine hK.out _ _ (keep14 hgx (by assumption)) (fun hH2 => ?_)
  clear hHeld hK K
  have hHeld := hH2
  clear hH2
  try simp only [Act.put, List.setIfInBounds_toArray, List.set_cons_zero, List.set_cons_succ]
  refine wpAnyH_ready (rs := [14]) (by kernel_rfl) (by simp) (AllReadyH.cons (o := { dst := some 186, op := Go.Op.call { callee := Go.Callee.value (Go.Operand.func 15), args := #[Go.Operand.tmp 184, Go.Operand.tmp 185], argTypes := #[32, 32] }, type := 4, pos := "law.go:110", after := #[{ on := 12, ground := Go.Ground.data }, { on := 13, ground := Go.Ground.data }, { on := 12, ground := Go.Ground.chain }, { on := 10, ground := Go.Ground.guard }], guard := some (10, false) }) rfl (fun K hK => ?_) AllReadyH.nil)
  go_simp
  first | (go_at_call 17; refine (HPU.out _).mono ?_; rintro e w11 ⟨rfl, hgx⟩) | (go_at_call 14; refine (HOO.out _ (HG5.out.trans hHeld.2.2.2.2.2.2.2.2.2.2.2.2.2.2)).mono ?_; rintro e w12 ⟨rfl, hgx⟩) | (go_at_call 16; refine (HRO.out _ (HG5.out.trans hHeld.2.2.2.2.2.2.2.2.2.2.2.2.2.2)).mono ?_; rintro e w13 ⟨v13, rfl, hs13, hgx⟩) | (go_at_call 15; have HE := equal_ints v13 (.slice (some ⟨br, 0, none⟩) 2 2) [a, b] [a, b] _ hs13 (SR.out.gr hHeld.2.2.2.2.2.2.2.2.2.2.2.2.2.2) (by simp) (by simp); rw [show sameB [a, b] [a, b] = true by simp [sameB]] at HE; refine HE.mono ?_; clear HE; rintro e w14 ⟨rfl, hgx⟩)
  go_simp
  refine hK.out _ _ (keep14 hgx (by assumption)) (fun hH2 => ?_)
  clear hHeld hK K
  have hHeld := hH2
  clear hH2
  try simp only [Act.put, List.setIfInBounds_toArray, List.set_cons_zero, List.set_cons_succ]
  refine wpAnyH_take (i := 15) (oi := { dst := some 187, op := Go.Op.unOp Go.UnOp.not 4 (Go.Operand.tmp 186), type := 4, pos := "law.go:110", after := #[{ on := 14, ground := Go.Ground.data }, { on := 10, ground := Go.Ground.guard }], guard := some (10, false) }) (v := ?_) rfl (by kernel_rfl) (by kernel_rfl) (by kernel_rfl) (fun _ _ _ h => h) (Or.inl ⟨by rfl, ?_⟩) (by assumption) ?_
  rotate_left
  (intro w hSw; (try dsimp only at hSw); go_simp; try (with_reducible rfl))
  simp only [Act.put, List.setIfInBounds_toArray, List.set_cons_zero, List.set_cons_succ]
  refine wpAnyH_take (i := 16) (oi := { dst := some 188, op := Go.Op.pick (Go.Operand.tmp 182) (Go.Operand.const (Go.Value.bool true)) (Go.Operand.tmp 187), type := 4, pos := "law.go:110", after := #[{ on := 10, ground := Go.Ground.data }, { on := 15, ground := Go.Ground.data }], guard := none }) (v := ?_) rfl (by kernel_rfl) (by kernel_rfl) (by kernel_rfl) (fun _ _ _ h => h) (Or.inl ⟨by rfl, ?_⟩) (by assumption) ?_
  rotate_left
  (intro w hSw; (try dsimp only at hSw); go_simp; try (with_reducible rfl))
  simp only [Act.put, List.setIfInBounds_toArray, List.set_cons_zero, List.set_cons_succ]
  refine wpAnyH_take (i := 17) (oi := { dst := some 189, op := Go.Op.move (Go.Operand.tmp 188), type := 4, pos := "law.go:110", after := #[{ on := 16, ground := Go.Ground.data }, { on := 14, ground := Go.Ground.chain }], guard := none }) (v := ?_) rfl (by kernel_rfl) (by kernel_rfl) (by kernel_rfl) (fun _ _ _ h => h) (Or.inl ⟨by rfl, ?_⟩) (by assumption) ?_
  rotate_left
  (intro w hSw; (try dsimp only at hSw); go_simp; try (with_reducible rfl))
  simp only [Act.put, List.setIfInBounds_toArray, List.set_cons_zero, List.set_cons_succ]
  refine wpAnyH_take (i := 18) (oi := { dst := some 190, op := Go.Op.fieldAddr 25 (Go.Operand.tmp 19) 0, type := 0, pos := "law.go:110", after := #[{ on := 17, ground := Go.Ground.guard }], guard := some (17, false) }) (v := ?_) rfl (by kernel_rfl) (by kernel_rfl) (by kernel_rfl) (fun _ _ _ h => h) (Or.inl ⟨by rfl, ?_⟩) (by assumption) ?_
  rotate_left
  (intro w hSw; (try dsimp only at hSw); go_simp; try (with_reducible rfl))
  simp only [Act.put, List.setIfInBounds_toArray, List.set_cons_zero, List.set_cons_succ]
  refine wpAnyH_take (i := 19) (oi := { dst := some 191, op := Go.Op.load 22 (Go.Operand.tmp 190), type := 22, pos := "law.go:110", after := #[{ on := 18, ground := Go.Ground.data }, { on := 17, ground := Go.Ground.guard }], guard := some (17, false) }) (v := ?_) rfl (by kernel_rfl) (by kernel_rfl) (by kernel_rfl) (fun _ _ _ h => h) (Or.inl ⟨by rfl, ?_⟩) (by assumption) ?_
  rotate_left
  (intro w hSw; (try dsimp only at hSw); go_simp; try (with_reducible rfl))
  simp only [Act.put, List.setIfInBounds_toArray, List.set_cons_zero, List.set_cons_succ]
  refine wpAnyH_take (i := 20) (oi := { dst := some 192, op := Go.Op.fieldAddr 25 (Go.Operand.tmp 10) 0, type := 0, pos := "law.go:110", after := #[{ on := 17, ground := Go.Ground.guard }], guard := some (17, false) }) (v := ?_) rfl (by kernel_rfl) (by kernel_rfl) (by kernel_rfl) (fun _ _ _ h => h) (Or.inl ⟨by rfl, ?_⟩) (by assumption) ?_
  rotate_left
  (intro w hSw; (try dsimp only at hSw); go_simp; try (with_reducible rfl))
  simp only [Act.put, List.setIfInBounds_toArray, List.set_cons_zero, List.set_cons_succ]
  refine wpAnyH_take (i := 21) (oi := { dst := some 193, op := Go.Op.load 22 (Go.Operand.tmp 192), type := 22, pos := "law.go:110", after := #[{ on := 20, ground := Go.Ground.data }, { on := 17, ground := Go.Ground.guard }], guard := some (17, false) }) (v := ?_) rfl (by kernel_rfl) (by kernel_rfl) (by kernel_rfl) (fun _ _ _ h => h) (Or.inl ⟨by rfl, ?_⟩) (by assumption) ?_
  rotate_left
  (intro w hSw; (try dsimp only at hSw); go_simp; try (with_reducible rfl))
  simp only [Act.put, List.setIfInBounds_toArray, List.set_cons_zero, List.set_cons_succ]
  refine wpAnyH_take (i := 22) (oi := { dst := some 194, op := Go.Op.binOp Go.BinOp.neq 22 (Go.Operand.tmp 191) (Go.Operand.tmp 193) 22, type := 4, pos := "law.go:110", after := #[{ on := 19, ground := Go.Ground.data }, { on := 21, ground := Go.Ground.data }, { on := 17, ground := Go.Ground.guard }], guard := some (17, false) }) (v := ?_) rfl (by kernel_rfl) (by kernel_rfl) (by kernel_rfl) (fun _ _ _ h => h) (Or.inl ⟨by rfl, ?_⟩) (by assumption) ?_
  rotate_left
  (intro w hSw; (try dsimp only at hSw); go_simp; try (with_reducible rfl))
  simp only [Act.put, List.setIfInBounds_toArray, List.set_cons_zero, List.set_cons_succ]
  refine wpAnyH_take (i := 23) (oi := { dst := some 195, op := Go.Op.pick (Go.Operand.tmp 189) (Go.Operand.const (Go.Value.bool true)) (Go.Operand.tmp 194), type := 4, pos := "law.go:110", after := #[{ on := 17, ground := Go.Ground.data }, { on := 22, ground := Go.Ground.data }], guard := none }) (v := ?_) rfl (by kernel_rfl) (by kernel_rfl) (by kernel_rfl) (fun _ _ _ h => h) (Or.inl ⟨by rfl, ?_⟩) (by assumption) ?_
  rotate_left
  (intro w hSw; (try dsimp only at hSw); go_simp; try (with_reducible rfl))
  simp only [Act.put, List.setIfInBounds_toArray, List.set_cons_zero, List.set_cons_succ]
  refine wpAnyH_take (i := 24) (oi := { dst := some 196, op := Go.Op.move (Go.Operand.tmp 195), type := 4, pos := "law.go:110", after := #[{ on := 23, ground := Go.Ground.data }, { on := 17, ground := Go.Ground.chain }], guard := none }) (v := ?_) rfl (by kernel_rfl) (by kernel_rfl) (by kernel_rfl) (fun _ _ _ h => h) (Or.inl ⟨by rfl, ?_⟩) (by assumption) ?_
  rotate_left
  (intro w hSw; (try dsimp only at hSw); go_simp; try (with_reducible rfl))
  simp only [Act.put, List.setIfInBounds_toArray, List.set_cons_zero, List.set_cons_succ]
  refine wpAnyH_take (i := 25) (oi := { dst := some 197, op := Go.Op.fieldAddr 25 (Go.Operand.tmp 19) 5, type := 0, pos := "law.go:110", after := #[{ on := 24, ground := Go.Ground.guard }], guard := some (24, false) }) (v := ?_) rfl (by kernel_rfl) (by kernel_rfl) (by kernel_rfl) (fun _ _ _ h => h) (Or.inl ⟨by rfl, ?_⟩) (by assumption) ?_
  rotate_left
  (intro w hSw; (try dsimp only at hSw); go_simp; try (with_reducible rfl))
  simp only [Act.put, List.setIfInBounds_toArray, List.set_cons_zero, List.set_cons_succ]
  refine wpAnyH_take (i := 26) (oi := { dst := some 198, op := Go.Op.load 2 (Go.Operand.tmp 197), type := 2, pos := "law.go:110", after := #[{ on := 25, ground := Go.Ground.data }, { on := 24, ground := Go.Ground.guard }], guard := some (24, false) }) (v := ?_) rfl (by kernel_rfl) (by kernel_rfl) (by kernel_rfl) (fun _ _ _ h => h) (Or.inl ⟨by rfl, ?_⟩) (by assumption) ?_
  rotate_left
  (intro w hSw; (try dsimp only at hSw); go_simp; try (with_reducible rfl))
  simp only [Act.put, List.setIfInBounds_toArray, List.set_cons_zero, List.set_cons_succ]
  refine wpAnyH_take (i := 27) (oi := { dst := some 199, op := Go.Op.binOp Go.BinOp.neq 2 (Go.Operand.tmp 198) (Go.Operand.const (Go.Value.int Go.IntKind.i64 0)) 2, type := 4, pos := "law.go:110", after := #[{ on := 26, ground := Go.Ground.data }, { on := 24, ground := Go.Ground.guard }], guard := some (24, false) }) (v := ?_) rfl (by kernel_rfl) (by kernel_rfl) (by kernel_rfl) (fun _ _ _ h => h) (Or.inl ⟨by rfl, ?_⟩) (by assumption) ?_
  rotate_left
  (intro w hSw; (try dsimp only at hSw); go_simp; try (with_reducible rfl))
  simp only [Act.put, List.setIfInBounds_toArray, List.set_cons_zero, List.set_cons_succ]
  refine wpAnyH_take (i := 28) (oi := { dst := some 200, op := Go.Op.move (Go.Operand.tmp 199), type := 4, pos := "law.go:110", after := #[{ on := 27, ground := Go.Ground.data }, { on := 24, ground := Go.Ground.chain }, { on := 24, ground := Go.Ground.guard }], guard := some (24, false) }) (v := ?_) rfl (by kernel_rfl) (by kernel_rfl) (by kernel_rfl) (fun _ _ _ h => h) (Or.inl ⟨by rfl, ?_⟩) (by assumption) ?_
  rotate_left
  (intro w hSw; (try dsimp only at hSw); go_simp; try (with_reducible rfl))
  simp only [Act.put, List.setIfInBounds_toArray, List.set_cons_zero, List.set_cons_succ]
  refine wpAnyH_take (i := 29) (oi := { dst := some 201, op := Go.Op.fieldAddr 25 (Go.Operand.tmp 19) 0, type := 0, pos := "law.go:110", after := #[{ on := 28, ground := Go.Ground.guard }], guard := some (28, true) }) (v := undef) rfl (by kernel_rfl) (by kernel_rfl) (by kernel_rfl) (fun _ _ _ h => h) (Or.inr ⟨by rfl, rfl⟩) (by assumption) ?_
  simp only [Act.put, List.setIfInBounds_toArray, List.set_cons_zero, List.set_cons_succ]
  refine wpAnyH_take (i := 30) (oi := { dst := some 202, op := Go.Op.load 22 (Go.Operand.tmp 201), type := 22, pos := "law.go:110", after := #[{ on := 29, ground := Go.Ground.data }, { on := 28, ground := Go.Ground.guard }], guard := some (28, true) }) (v := undef) rfl (by kernel_rfl) (by kernel_rfl) (by kernel_rfl) (fun _ _ _ h => h) (Or.inr ⟨by rfl, rfl⟩) (by assumption) ?_
  simp only [Act.put, List.setIfInBounds_toArray, List.set_cons_zero, List.set_cons_succ]
  refine wpAnyH_take (i := 31) (oi := { dst := some 203, op := Go.Op.binOp Go.BinOp.neq 22 (Go.Operand.tmp 202) (Go.Operand.const (Go.Value.int Go.IntKind.u8 0)) 22, type := 4, pos := "law.go:110", after := #[{ on := 30, ground := Go.Ground.data }, { on := 28, ground := Go.Ground.guard }], guard := some (28, true) }) (v := undef) rfl (by kernel_rfl) (by kernel_rfl) (by kernel_rfl) (fun _ _ _ h => h) (Or.inr ⟨by rfl, rfl⟩) (by assumption) ?_
  simp only [Act.put, List.setIfInBounds_toArray, List.set_cons_zero, List.set_cons_succ]
  refine wpAnyH_take (i := 32) (oi := { dst := some 204, op := Go.Op.pick (Go.Operand.tmp 200) (Go.Operand.tmp 203) (Go.Operand.const (Go.Value.bool false)), type := 4, pos := "law.go:110", after := #[{ on := 28, ground := Go.Ground.data }, { on := 31, ground := Go.Ground.data }, { on := 24, ground := Go.Ground.guard }], guard := some (24, false) }) (v := ?_) rfl (by kernel_rfl) (by kernel_rfl) (by kernel_rfl) (fun _ _ _ h => h) (Or.inl ⟨by rfl, ?_⟩) (by assumption) ?_
  rotate_left
  (intro w hSw; (try dsimp only at hSw); go_simp; try (with_reducible rfl))
  simp only [Act.put, List.setIfInBounds_toArray, List.set_cons_zero, List.set_cons_succ]
  refine wpAnyH_take (i := 33) (oi := { dst := some 205, op := Go.Op.pick (Go.Operand.tmp 196) (Go.Operand.const (Go.Value.bool true)) (Go.Operand.tmp 204), type := 4, pos := "law.go:110", after := #[{ on := 24, ground := Go.Ground.data }, { on := 32, ground := Go.Ground.data }], guard := none }) (v := ?_) rfl (by kernel_rfl) (by kernel_rfl) (by kernel_rfl) (fun _ _ _ h => h) (Or.inl ⟨by rfl, ?_⟩) (by assumption) ?_
  rotate_left
  (intro w hSw; (try dsimp only at hSw); go_simp; try (with_reducible rfl))
  simp only [Act.put, List.setIfInBounds_toArray, List.set_cons_zero, List.set_cons_succ]
  refine wpAnyH_take (i := 34) (oi := { dst := some 206, op := Go.Op.move (Go.Operand.tmp 205), type := 4, pos := "law.go:110", after := #[{ on := 33, ground := Go.Ground.data }, { on := 28, ground := Go.Ground.chain }], guard := none }) (v := ?_) rfl (by kernel_rfl) (by kernel_rfl) (by kernel_rfl) (fun _ _ _ h => h) (Or.inl ⟨by rfl, ?_⟩) (by assumption) ?_
  rotate_left
  (intro w hSw; (try dsimp only at hSw); go_simp; try (with_reducible rfl))
  simp only [Act.put, List.setIfInBounds_toArray, List.set_cons_zero, List.set_cons_succ]
  refine wpAnyH_take (i := 35) (oi := { dst := some 207, op := Go.Op.fieldAddr 25 (Go.Operand.tmp 19) 6, type := 0, pos := "law.go:110", after := #[{ on := 34, ground := Go.Ground.guard }], guard := some (34, false) }) (v := ?_) rfl (by kernel_rfl) (by kernel_rfl) (by kernel_rfl) (fun _ _ _ h => h) (Or.inl ⟨by rfl, ?_⟩) (by assumption) ?_
  rotate_left
  (intro w hSw; (try dsimp only at hSw); go_simp; try (with_reducible rfl))
  simp only [Act.put, List.setIfInBounds_toArray, List.set_cons_zero, List.set_cons_succ]
  refine wpAnyH_take (i := 36) (oi := { dst := some 208, op := Go.Op.load 3 (Go.Operand.tmp 207), type := 3, pos := "law.go:110", after := #[{ on := 35, ground := Go.Ground.data }, { on := 34, ground := Go.Ground.guard }], guard := some (34, false) }) (v := ?_) rfl (by kernel_rfl) (by kernel_rfl) (by kernel_rfl) (fun _ _ _ h => h) (Or.inl ⟨by rfl, ?_⟩) (by assumption) ?_
  rotate_left
  (intro w hSw; (try dsimp only at hSw); go_simp; try (with_reducible rfl))
  simp only [Act.put, List.setIfInBounds_toArray, List.set_cons_zero, List.set_cons_succ]
  refine wpAnyH_take (i := 37) (oi := { dst := some 209, op := Go.Op.binOp Go.BinOp.neq 3 (Go.Operand.tmp 208) (Go.Operand.const (Go.Value.int Go.IntKind.i64 0)) 3, type := 4, pos := "law.go:110", after := #[{ on := 36, ground := Go.Ground.data }, { on := 34, ground := Go.Ground.guard }], guard := some (34, false) }) (v := ?_) rfl (by kernel_rfl) (by kernel_rfl) (by kernel_rfl) (fun _ _ _ h => h) (Or.inl ⟨by rfl, ?_⟩) (by assumption) ?_
  rotate_left
  (intro w hSw; (try dsimp only at hSw); go_simp; try (with_reducible rfl))
  simp only [Act.put, List.setIfInBounds_toArray, List.set_cons_zero, List.set_cons_succ]
  refine wpAnyH_take (i := 38) (oi := { dst := some 210, op := Go.Op.move (Go.Operand.tmp 209), type := 4, pos := "law.go:110", after := #[{ on := 37, ground := Go.Ground.data }, { on := 34, ground := Go.Ground.chain }, { on := 34, ground := Go.Ground.guard }], guard := some (34, false) }) (v := ?_) rfl (by kernel_rfl) (by kernel_rfl) (by kernel_rfl) (fun _ _ _ h => h) (Or.inl ⟨by rfl, ?_⟩) (by assumption) ?_
  rotate_left
  (intro w hSw; (try dsimp only at hSw); go_simp; try (with_reducible rfl))
  simp only [Act.put, List.setIfInBounds_toArray, List.set_cons_zero, List.set_cons_succ]
  refine wpAnyH_take (i := 39) (oi := { dst := some 211, op := Go.Op.fieldAddr 25 (Go.Operand.tmp 19) 0, type := 0, pos := "law.go:110", after := #[{ on := 38, ground := Go.Ground.guard }], guard := some (38, true) }) (v := undef) rfl (by kernel_rfl) (by kernel_rfl) (by kernel_rfl) (fun _ _ _ h => h) (Or.inr ⟨by rfl, rfl⟩) (by assumption) ?_
  simp only [Act.put, List.setIfInBounds_toArray, List.set_cons_zero, List.set_cons_succ]
  refine wpAnyH_take (i := 40) (oi := { dst := some 212, op := Go.Op.load 22 (Go.Operand.tmp 211), type := 22, pos := "law.go:110", after := #[{ on := 39, ground := Go.Ground.data }, { on := 38, ground := Go.Ground.guard }], guard := some (38, true) }) (v := undef) rfl (by kernel_rfl) (by kernel_rfl) (by kernel_rfl) (fun _ _ _ h => h) (Or.inr ⟨by rfl, rfl⟩) (by assumption) ?_
  simp only [Act.put, List.setIfInBounds_toArray, List.set_cons_zero, List.set_cons_succ]
  refine wpAnyH_take (i := 41) (oi := { dst := some 213, op := Go.Op.binOp Go.BinOp.neq 22 (Go.Operand.tmp 212) (Go.Operand.const (Go.Value.int Go.IntKind.u8 5)) 22, type := 4, pos := "law.go:110", after := #[{ on := 40, ground := Go.Ground.data }, { on := 38, ground := Go.Ground.guard }], guard := some (38, true) }) (v := undef) rfl (by kernel_rfl) (by kernel_rfl) (by kernel_rfl) (fun _ _ _ h => h) (Or.inr ⟨by rfl, rfl⟩) (by assumption) ?_
  simp only [Act.put, List.setIfInBounds_toArray, List.set_cons_zero, List.set_cons_succ]
  refine wpAnyH_take (i := 42) (oi := { dst := some 214, op := Go.Op.pick (Go.Operand.tmp 210) (Go.Operand.tmp 213) (Go.Operand.const (Go.Value.bool false)), type := 4, pos := "law.go:110", after := #[{ on := 38, ground := Go.Ground.data }, { on := 41, ground := Go.Ground.data }, { on := 34, ground := Go.Ground.guard }], guard := some (34, false) }) (v := ?_) rfl (by kernel_rfl) (by kernel_rfl) (by kernel_rfl) (fun _ _ _ h => h) (Or.inl ⟨by rfl, ?_⟩) (by assumption) ?_
  rotate_left
  (intro w hSw; (try dsimp only at hSw); go_simp; try (with_reducible rfl))
  simp only [Act.put, List.setIfInBounds_toArray, List.set_cons_zero, List.set_cons_succ]
  refine wpAnyH_take (i := 43) (oi := { dst := some 215, op := Go.Op.move (Go.Operand.tmp 214), type := 4, pos := "law.go:110", after := #[{ on := 42, ground := Go.Ground.data }, { on := 38, ground := Go.Ground.chain }, { on := 34, ground := Go.Ground.guard }], guard := some (34, false) }) (v := ?_) rfl (by kernel_rfl) (by kernel_rfl) (by kernel_rfl) (fun _ _ _ h => h) (Or.inl ⟨by rfl, ?_⟩) (by assumption) ?_
  rotate_left
  (intro w hSw; (try dsimp only at hSw); go_simp; try (with_reducible rfl))
  simp only [Act.put, List.setIfInBounds_toArray, List.set_cons_zero, List.set_cons_succ]
  refine wpAnyH_take (i := 44) (oi := { dst := some 216, op := Go.Op.fieldAddr 25 (Go.Operand.tmp 19) 0, type := 0, pos := "law.go:110", after := #[{ on := 43, ground := Go.Ground.guard }], guard := some (43, true) }) (v := undef) rfl (by kernel_rfl) (by kernel_rfl) (by kernel_rfl) (fun _ _ _ h => h) (Or.inr ⟨by rfl, rfl⟩) (by assumption) ?_
  simp only [Act.put, List.setIfInBounds_toArray, List.set_cons_zero, List.set_cons_succ]
  refine wpAnyH_take (i := 45) (oi := { dst := some 217, op := Go.Op.load 22 (Go.Operand.tmp 216), type := 22, pos := "law.go:110", after := #[{ on := 44, ground := Go.Ground.data }, { on := 43, ground := Go.Ground.guard }], guard := some (43, true) }) (v := undef) rfl (by kernel_rfl) (by kernel_rfl) (by kernel_rfl) (fun _ _ _ h => h) (Or.inr ⟨by rfl, rfl⟩) (by assumption) ?_
  simp only [Act.put, List.setIfInBounds_toArray, List.set_cons_zero, List.set_cons_succ]
  refine wpAnyH_take (i := 46) (oi := { dst := some 218, op := Go.Op.binOp Go.BinOp.neq 22 (Go.Operand.tmp 217) (Go.Operand.const (Go.Value.int Go.IntKind.u8 6)) 22, type := 4, pos := "law.go:110", after := #[{ on := 45, ground := Go.Ground.data }, { on := 43, ground := Go.Ground.guard }], guard := some (43, true) }) (v := undef) rfl (by kernel_rfl) (by kernel_rfl) (by kernel_rfl) (fun _ _ _ h => h) (Or.inr ⟨by rfl, rfl⟩) (by assumption) ?_
  simp only [Act.put, List.setIfInBounds_toArray, List.set_cons_zero, List.set_cons_succ]
  refine wpAnyH_take (i := 47) (oi := { dst := some 219, op := Go.Op.pick (Go.Operand.tmp 215) (Go.Operand.tmp 218) (Go.Operand.const (Go.Value.bool false)), type := 4, pos := "law.go:110", after := #[{ on := 43, ground := Go.Ground.data }, { on := 46, ground := Go.Ground.data }, { on := 34, ground := Go.Ground.guard }], guard := some (34, false) }) (v := ?_) rfl (by kernel_rfl) (by kernel_rfl) (by kernel_rfl) (fun _ _ _ h => h) (Or.inl ⟨by rfl, ?_⟩) (by assumption) ?_
  rotate_left
  (intro w hSw; (try dsimp only at hSw); go_simp; try (with_reducible rfl))
  simp only [Act.put, List.setIfInBounds_toArray, List.set_cons_zero, List.set_cons_succ]
  refine wpAnyH_take (i := 48) (oi := { dst := some 220, op := Go.Op.pick (Go.Operand.tmp 206) (Go.Operand.const (Go.Value.bool true)) (Go.Operand.tmp 219), type := 4, pos := "law.go:110", after := #[{ on := 34, ground := Go.Ground.data }, { on := 47, ground := Go.Ground.data }], guard := none }) (v := ?_) rfl (by kernel_rfl) (by kernel_rfl) (by kernel_rfl) (fun _ _ _ h => h) (Or.inl ⟨by rfl, ?_⟩) (by assumption) ?_
  rotate_left
  (intro w hSw; (try dsimp only at hSw); go_simp; try (with_reducible rfl))
  simp only [Act.put, List.setIfInBounds_toArray, List.set_cons_zero, List.set_cons_succ]
  refine wpAnyH_take (i := 49) (oi := { dst := some 221, op := Go.Op.move (Go.Operand.tmp 220), type := 4, pos := "law.go:110", after := #[{ on := 48, ground := Go.Ground.data }, { on := 43, ground := Go.Ground.chain }], guard := none }) (v := ?_) rfl (by kernel_rfl) (by kernel_rfl) (by kernel_rfl) (fun _ _ _ h => h) (Or.inl ⟨by rfl, ?_⟩) (by assumption) ?_
  rotate_left
  (intro w hSw; (try dsimp only at hSw); go_simp; try (with_reducible rfl))
  simp only [Act.put, List.setIfInBounds_toArray, List.set_cons_zero, List.set_cons_succ]
  refine wpAnyH_take (i := 50) (oi := { dst := some 222, op := Go.Op.fieldAddr 25 (Go.Operand.tmp 19) 1, type := 0, pos := "law.go:110", after := #[{ on := 49, ground := Go.Ground.guard }], guard := some (49, false) }) (v := ?_) rfl (by kernel_rfl) (by kernel_rfl) (by kernel_rfl) (fun _ _ _ h => h) (Or.inl ⟨by rfl, ?_⟩) (by assumption) ?_
  rotate_left
  (intro w hSw; (try dsimp only at hSw); go_simp; try (with_reducible rfl))
  simp only [Act.put, List.setIfInBounds_toArray, List.set_cons_zero, List.set_cons_succ]
  refine wpAnyH_take (i := 51) (oi := { dst := some 223, op := Go.Op.load 23 (Go.Operand.tmp 222), type := 23, pos := "law.go:110", after := #[{ on := 50, ground := Go.Ground.data }, { on := 49, ground := Go.Ground.guard }], guard := some (49, false) }) (v := ?_) rfl (by kernel_rfl) (by kernel_rfl) (by kernel_rfl) (fun _ _ _ h => h) (Or.inl ⟨by rfl, ?_⟩) (by assumption) ?_
  rotate_left
  (intro w hSw; (try dsimp only at hSw); go_simp; try (with_reducible rfl))
  simp only [Act.put, List.setIfInBounds_toArray, List.set_cons_zero, List.set_cons_succ]
  refine wpAnyH_take (i := 52) (oi := { dst := some 224, op := Go.Op.binOp Go.BinOp.neq 23 (Go.Operand.tmp 223) (Go.Operand.const (Go.Value.int Go.IntKind.u8 0)) 23, type := 4, pos := "law.go:110", after := #[{ on := 51, ground := Go.Ground.data }, { on := 49, ground := Go.Ground.guard }], guard := some (49, false) }) (v := ?_) rfl (by kernel_rfl) (by kernel_rfl) (by kernel_rfl) (fun _ _ _ h => h) (Or.inl ⟨by rfl, ?_⟩) (by assumption) ?_
  rotate_left
  (intro w hSw; (try dsimp only at hSw); go_simp; try (with_reducible rfl))
  simp only [Act.put, List.setIfInBounds_toArray, List.set_cons_zero, List.set_cons_succ]
  refine wpAnyH_take (i := 53) (oi := { dst := some 225, op := Go.Op.move (Go.Operand.tmp 224), type := 4, pos := "law.go:110", after := #[{ on := 52, ground := Go.Ground.data }, { on := 49, ground := Go.Ground.chain }, { on := 49, ground := Go.Ground.guard }], guard := some (49, false) }) (v := ?_) rfl (by kernel_rfl) (by kernel_rfl) (by kernel_rfl) (fun _ _ _ h => h) (Or.inl ⟨by rfl, ?_⟩) (by assumption) ?_
  rotate_left
  (intro w hSw; (try dsimp only at hSw); go_simp; try (with_reducible rfl))
  simp only [Act.put, List.setIfInBounds_toArray, List.set_cons_zero, List.set_cons_succ]
  refine wpAnyH_take (i := 54) (oi := { dst := some 226, op := Go.Op.fieldAddr 25 (Go.Operand.tmp 19) 0, type := 0, pos := "law.go:110", after := #[{ on := 53, ground := Go.Ground.guard }], guard := some (53, true) }) (v := ?_) rfl (by kernel_rfl) (by kernel_rfl) (by kernel_rfl) (fun _ _ _ h => h) (Or.inl ⟨by rfl, ?_⟩) (by assumption) ?_
  rotate_left
  (intro w hSw; (try dsimp only at hSw); go_simp; try (with_reducible rfl))
  simp only [Act.put, List.setIfInBounds_toArray, List.set_cons_zero, List.set_cons_succ]
  refine wpAnyH_take (i := 55) (oi := { dst := some 227, op := Go.Op.load 22 (Go.Operand.tmp 226), type := 22, pos := "law.go:110", after := #[{ on := 54, ground := Go.Ground.data }, { on := 53, ground := Go.Ground.guard }], guard := some (53, true) }) (v := ?_) rfl (by kernel_rfl) (by kernel_rfl) (by kernel_rfl) (fun _ _ _ h => h) (Or.inl ⟨by rfl, ?_⟩) (by assumption) ?_
  rotate_left
  (intro w hSw; (try dsimp only at hSw); go_simp; try (with_reducible rfl))
  simp only [Act.put, List.setIfInBounds_toArray, List.set_cons_zero, List.set_cons_succ]
  refine wpAnyH_take (i := 56) (oi := { dst := some 228, op := Go.Op.binOp Go.BinOp.neq 22 (Go.Operand.tmp 227) (Go.Operand.const (Go.Value.int Go.IntKind.u8 2)) 22, type := 4, pos := "law.go:110", after := #[{ on := 55, ground := Go.Ground.data }, { on := 53, ground := Go.Ground.guard }], guard := some (53, true) }) (v := ?_) rfl (by kernel_rfl) (by kernel_rfl) (by kernel_rfl) (fun _ _ _ h => h) (Or.inl ⟨by rfl, ?_⟩) (by assumption) ?_
  rotate_left
  (intro w hSw; (try dsimp only at hSw); go_simp; try (with_reducible rfl))
  simp only [Act.put, List.setIfInBounds_toArray, List.set_cons_zero, List.set_cons_succ]
  refine wpAnyH_take (i := 57) (oi := { dst := some 229, op := Go.Op.pick (Go.Operand.tmp 225) (Go.Operand.tmp 228) (Go.Operand.const (Go.Value.bool false)), type := 4, pos := "law.go:110", after := #[{ on := 53, ground := Go.Ground.data }, { on := 56, ground := Go.Ground.data }, { on := 49, ground := Go.Ground.guard }], guard := some (49, false) }) (v := ?_) rfl (by kernel_rfl) (by kernel_rfl) (by kernel_rfl) (fun _ _ _ h => h) (Or.inl ⟨by rfl, ?_⟩) (by assumption) ?_
  rotate_left
  (intro w hSw; (try dsimp only at hSw); go_simp; try (with_reducible rfl))
  simp only [Act.put, List.setIfInBounds_toArray, List.set_cons_zero, List.set_cons_succ]
  refine wpAnyH_take (i := 58) (oi := { dst := some 230, op := Go.Op.pick (Go.Operand.tmp 221) (Go.Operand.const (Go.Value.bool true)) (Go.Operand.tmp 229), type := 4, pos := "law.go:110", after := #[{ on := 49, ground := Go.Ground.data }, { on := 57, ground := Go.Ground.data }], guard := none }) (v := ?_) rfl (by kernel_rfl) (by kernel_rfl) (by kernel_rfl) (fun _ _ _ h => h) (Or.inl ⟨by rfl, ?_⟩) (by assumption) ?_
  rotate_left
  (intro w hSw; (try dsimp only at hSw); go_simp; try (with_reducible rfl))
  simp only [Act.put, List.setIfInBounds_toArray, List.set_cons_zero, List.set_cons_succ]
  refine wpAnyH_done (by kernel_rfl) (NoPanic.normal ?_) _
  have HGf := hid (HG5r.out.trans hHeld.2.2.2.2.2.2.2.2.2.2.2.2.2.2)
  obtain ⟨q0, q1, q2, q3, q4, q5, q6, q7, q8, q9, q10, q11, q12, q13, _⟩ := hHeld
  go_simp
  go_wp2_with (fail)
  exact HEND.out _ _ _ _ _ _ _ _ _ _ _ _ _ _ _ _ _ _ _ _ _ _ _ _ _ _ _ _ _ _ _ _ _ _ _ _ _ _ _ _ _ _ _ _ _ _ _ _ _ _ _ _ _ _ _ _ _ _ _ _ _ _ _ _ _ _ _ _ _ _ _ _ _ _ _ _ _ _ _ _ _ _ _ _ _ _ _ _ _ _ _ _ _ _ _ _ _ _ _ _ _ _ _ _ _ _ _ _ _ _ _ _ _ _ _ _ _ _ _ _ _ _ _ _ _ _ _ _ _ _ _ _ _ _ _ _ _ _ _ _ _ _ _ _ _ _ _ _ _ _ _ _ _ _ _ _ _ _ _ _ _ _ _ _ _ _ _ _ _ _ _ _ _ _ _ _ _ _ _ _ _ _ _ _ _ _ _ _ _ _ _ _ _ _ _ _ _ _ _ _ _ _ _ _ _ _ _ _ _ _ _ _ _ _ _ _ _ _ _ _ _ _ _ _ _ _ _ _ _ _ _ _ _ _ _ _ _ _ _ _ _ _ _ _ _ _ _ _ _ _ _ _ _ _ _ _ _ _ _ _ _ _ _ _ _ _ _ _ _ _ _ _ _ _ _ _ _ _ HGf.out
set_option maxRecDepth 100000 in
set_option maxHeartbeats 2000000 in
theorem round_2b (n s : Int) : RoundAt 2 4 n s := by
  intro c hc Q d a b kv kb sb w0 wr i u0 u1 u2 u3 u4 u5 u7 u8 u9 u10 u11 u12 u13 u14 u15 u16 u17 u18 u19 u20 u21 u22 u23 u24 u25 u26 u27 u28 u32 u33 u34 u35 u36 u37 u38 u39 u40 u41 u42 u43 u44 u45 u46 u47 u48 u49 u50 u51 u52 u53 u54 u55 u56 u57 u58 u59 u60 u61 u62 u63 u64 u65 u66 u67 u68 u69 u70 u71 u72 u73 u74 u75 u76 u77 u78 u79 u80 u81 u82 u83 u84 u85 u86 u87 u88 u89 u90 u91 u92 u93 u94 u95 u96 u97 u98 u99 u100 u101 u102 u103 u104 u105 u106 u107 u108 u109 u110 u111 u112 u113 u114 u115 u116 u117 u118 u119 u120 u121 u122 u123 u124 u125 u126 u127 u128 u129 u130 u131 u132 u133 u134 u135 u136 u137 u138 u139 u140 u141 u142 u143 u144 u145 u146 u147 u148 u149 u150 u151 u152 u153 u154 u155 u156 u157 u158 u159 u160 u161 u162 u163 u164 u165 u166 u167 u168 u169 u170 u171 u172 u173 u174 u175 u176 u177 u178 u179 u180 u181 u182 u183 u184 u185 u186 u187 u188 u189 u190 u191 u192 u193 u194 u195 u196 u197 u198 u199 u200 u201 u202 u203 u204 u205 u206 u207 u208 u209 u210 u211 u212 u213 u214 u215 u216 u217 u218 u219 u220 u221 u222 u223 u224 u225 u226 u227 u228 u229 u230 u231 u232 u233 u234 u235 u236 u237 u238 u239 u240 u241 u242 u243 u244 u245 u246 u247 u248 u249 u250 u251 u252 u253 u254 u255 u256 u257 u258 u259 u260 u261 u262 u263 u264 u265 u266 u267 u268 u269 u270 u271 u272 u273 u274 u275 u276 u277 u278 u279 u280 hk hg kd hi hin hend
  have h2 : (Tryd.f3.body).bind firstLoop = some _ := rfl
  obtain rfl := Option.some.inj (h2.symm.trans hc)
  clear hc h2
  have HEND := hid hend
  have HK := hid hk
  have HG := hid hg
  clear hend hk hg
  obtain ⟨p0, p1, p2, p3, p4, p5, p6⟩ := hin
  simp only at p0 p1 p2 p3 p4 p5 p6
  have hm : Tryd.prog.follows .mixedOrders = true := by kernel_rfl
  have hkb := cell_lt kd
  simp only at hkb
  have HSE : Hid (∀ W, Gr w0 W → Calls Tryd.prog 11 #[.agg #[.int .u8 2, .int .u8 4, .int .i64 d, .int .i64 a, .int .i64 b, .int .i64 n, .int .i64 s]] W fun e w' => e = .returned (.tuple #[.int .i64 d, .bool true]) ∧ Gr W w') := fun W g => by
    have := sets_any (2) (by omega) 4 d a b n s W (HK.out.gr g)
    exact this
  have HTU : Hid (∀ W, Gr w0 W → W.cell? ⟨kb, 0, none⟩ = some (.int .i64 kv) → Calls Tryd.prog 12 #[.agg #[.int .u8 2, .int .u8 4, .int .i64 d, .int .i64 a, .int .i64 b, .int .i64 n, .int .i64 s], .func (.func 13) #[] #[.pointer (some ⟨kb, 0, none⟩)]] W fun e w' => e = .returned (.agg #[.int .u8 2, .int .u8 4, .int .i64 d, .int .i64 (xr a kv), .int .i64 (xr b kv), .int .i64 n, .int .i64 s]) ∧ Gr W w') := fun W g hc => by
    have := turned_any (2) (by omega) 4 d a b n s kv kb W (HK.out.gr g) hc
    exact this
  have HON : Hid (∀ W, Gr w0 W → Calls Tryd.prog 14 #[.agg #[.int .u8 2, .int .u8 4, .int .i64 d, .int .i64 a, .int .i64 b, .int .i64 n, .int .i64 s]] W fun e w' => e = .returned (.agg #[.int .u8 2, .int .u8 4, .int .i64 d, .int .i64 a, .int .i64 b, .int .i64 0, .int .i64 0]) ∧ Gr W w') := fun W g => by
    have := only_any (2) (by omega) 4 d a b n s W (HK.out.gr g)
    exact this
  have HRZ : Hid (∀ W, Gr w0 W → Calls Tryd.prog 16 #[.agg #[.int .u8 2, .int .u8 4, .int .i64 d, .int .i64 a, .int .i64 b, .int .i64 n, .int .i64 s]] W fun e w' => ∃ v, e = .returned v ∧ Sl w' 3 1 v 2 (ivals [a, b]) ∧ Gr W w') := fun W g => by
    have := reads_any (2) (by omega) (4) (d) (a) (b) (n) (s) W (HK.out.gr g)
    exact this.mono fun e w' ⟨v, h1, h2, h3, _⟩ => ⟨v, h1, h2, h3⟩
  have HRT : Hid (∀ W, Gr w0 W → Calls Tryd.prog 16 #[.agg #[.int .u8 2, .int .u8 4, .int .i64 d, .int .i64 (xr a kv), .int .i64 (xr b kv), .int .i64 n, .int .i64 s]] W fun e w' => ∃ v, e = .returned v ∧ Sl w' 3 1 v 2 (ivals [xr a kv, xr b kv]) ∧ Gr W w') := fun W g => by
    have := reads_any (2) (by omega) (4) (d) ((xr a kv)) ((xr b kv)) (n) (s) W (HK.out.gr g)
    exact this.mono fun e w' ⟨v, h1, h2, h3, _⟩ => ⟨v, h1, h2, h3⟩
  have HRO : Hid (∀ W, Gr w0 W → Calls Tryd.prog 16 #[.agg #[.int .u8 2, .int .u8 4, .int .i64 d, .int .i64 a, .int .i64 b, .int .i64 0, .int .i64 0]] W fun e w' => ∃ v, e = .returned v ∧ Sl w' 3 1 v 2 (ivals [a, b]) ∧ Gr W w') := fun W g => by
    have := reads_any (2) (by omega) (4) (d) (a) (b) (0) (0) W (HK.out.gr g)
    exact this.mono fun e w' ⟨v, h1, h2, h3, _⟩ => ⟨v, h1, h2, h3⟩
  go_wp2_with (fail)
  refine (HSE.out _ ((HG.out.alloc _).alloc _)).mono ?_
  rintro e w3 ⟨rfl, hg3⟩
  dsimp only
  have z0 := Gr.boxed (w := wr) (((Gr.refl _).alloc _).trans hg3) 0 (u := .int .u8 2) rfl
  have z1 := Gr.boxed (w := wr) (((Gr.refl _).alloc _).trans hg3) 1 (u := .int .u8 4) rfl
  have z2 := Gr.boxed (w := wr) (((Gr.refl _).alloc _).trans hg3) 2 (u := .int .i64 d) rfl
  have z3 := Gr.boxed (w := wr) (((Gr.refl _).alloc _).trans hg3) 3 (u := .int .i64 a) rfl
  have z4 := Gr.boxed (w := wr) (((Gr.refl _).alloc _).trans hg3) 4 (u := .int .i64 b) rfl
  have z5 := Gr.boxed (w := wr) (((Gr.refl _).alloc _).trans hg3) 5 (u := .int .i64 n) rfl
  have z6 := Gr.boxed (w := wr) (((Gr.refl _).alloc _).trans hg3) 6 (u := .int .i64 s) rfl
  have kd3 := (((Gr.refl wr).alloc _).alloc _).trans hg3 |>.val kd
  have SR : Hid (Sl w3 3 1 (.slice (some ⟨wr.heap.size + 1, 0, none⟩) 2 2) 2 (ivals [a, b])) := (sl_new _ _ (by simp) 3 1 2 (ivals [a, b]) rfl (by simp [maxLen])).gr hg3
  have HG3 := hid (((HG.out.alloc _).alloc _).trans hg3)
  have HG3r := hid ((((Gr.refl wr).alloc _).alloc _).trans hg3)
  clear hg3
  go_wp2_with (fail)
  refine (HTU.out _ HG3.out kd3).mono ?_
  rintro e w4 ⟨rfl, hg4⟩
  dsimp only
  replace z0 := hg4.val z0
  replace z1 := hg4.val z1
  replace z2 := hg4.val z2
  replace z3 := hg4.val z3
  replace z4 := hg4.val z4
  replace z5 := hg4.val z5
  replace z6 := hg4.val z6
  replace kd3 := hg4.val kd3
  replace SR := hid (SR.out.gr hg4)
  have HG4 := hid (HG3.out.trans hg4)
  have HG4r := hid (HG3r.out.trans hg4)
  clear hg4 HG3 HG3r
  go_wp2_with (fail)
  have GA := (Gr.refl w4).alloc (.cells #[.int .u8 2, .int .u8 4, .int .i64 d, .int .i64 (xr a kv), .int .i64 (xr b kv), .int .i64 n, .int .i64 s] 25)
  replace z0 := GA.val z0
  replace z1 := GA.val z1
  replace z2 := GA.val z2
  replace z3 := GA.val z3
  replace z4 := GA.val z4
  replace z5 := GA.val z5
  replace z6 := GA.val z6
  replace kd3 := GA.val kd3
  have t0 : (w4.alloc (.cells #[.int .u8 2, .int .u8 4, .int .i64 d, .int .i64 (xr a kv), .int .i64 (xr b kv), .int .i64 n, .int .i64 s] 25)).cell? ⟨w4.heap.size, 0, none⟩ = some (.int .u8 2) := (Gr.refl _).boxed 0 rfl
  have t1 : (w4.alloc (.cells #[.int .u8 2, .int .u8 4, .int .i64 d, .int .i64 (xr a kv), .int .i64 (xr b kv), .int .i64 n, .int .i64 s] 25)).cell? ⟨w4.heap.size, 1, none⟩ = some (.int .u8 4) := (Gr.refl _).boxed 1 rfl
  have t2 : (w4.alloc (.cells #[.int .u8 2, .int .u8 4, .int .i64 d, .int .i64 (xr a kv), .int .i64 (xr b kv), .int .i64 n, .int .i64 s] 25)).cell? ⟨w4.heap.size, 2, none⟩ = some (.int .i64 d) := (Gr.refl _).boxed 2 rfl
  have t3 : (w4.alloc (.cells #[.int .u8 2, .int .u8 4, .int .i64 d, .int .i64 (xr a kv), .int .i64 (xr b kv), .int .i64 n, .int .i64 s] 25)).cell? ⟨w4.heap.size, 3, none⟩ = some (.int .i64 (xr a kv)) := (Gr.refl _).boxed 3 rfl
  have t4 : (w4.alloc (.cells #[.int .u8 2, .int .u8 4, .int .i64 d, .int .i64 (xr a kv), .int .i64 (xr b kv), .int .i64 n, .int .i64 s] 25)).cell? ⟨w4.heap.size, 4, none⟩ = some (.int .i64 (xr b kv)) := (Gr.refl _).boxed 4 rfl
  have t5 : (w4.alloc (.cells #[.int .u8 2, .int .u8 4, .int .i64 d, .int .i64 (xr a kv), .int .i64 (xr b kv), .int .i64 n, .int .i64 s] 25)).cell? ⟨w4.heap.size, 5, none⟩ = some (.int .i64 n) := (Gr.refl _).boxed 5 rfl
  have t6 : (w4.alloc (.cells #[.int .u8 2, .int .u8 4, .int .i64 d, .int .i64 (xr a kv), .int .i64 (xr b kv), .int .i64 n, .int .i64 s] 25)).cell? ⟨w4.heap.size, 6, none⟩ = some (.int .i64 s) := (Gr.refl _).boxed 6 rfl
  replace SR := hid (SR.out.gr GA)
  replace HG4 := hid (HG4.out.trans GA)
  replace HG4r := hid (HG4r.out.trans GA)
  clear GA
  generalize w4.alloc (.cells #[.int .u8 2, .int .u8 4, .int .i64 d, .int .i64 (xr a kv), .int .i64 (xr b kv), .int .i64 n, .int .i64 s] 25) = W4 at *
  generalize w4.heap.size = bt at *
  generalize wr.heap.size + 1 = br at *
  generalize hbz : wr.heap.size = bz at *
  clear hbz
  have rc0 : W4.cell? ⟨br, 0, none⟩ = some (.int .i64 a) := by simpa using cells_ints (l := [a, b]) SR.out 0 (by simp)
  have rc1 : W4.cell? ⟨br, 1, none⟩ = some (.int .i64 b) := by simpa using cells_ints (l := [a, b]) SR.out 1 (by simp)
  have lr := cell_lt rc0
  simp only at lr
  have lz := cell_lt z0
  have lt := cell_lt t0
  have lk := cell_lt kd3
  simp only at lz lt lk
  refine wp_loop_rounds 3 ?_
  rw [rounds_succ]
  go_wp2_with (first | (at_builtin; refine wpList_append_sl _ rfl _ _ 32 rfl Tryd.underlying32 info_int rfl (by decide) (.slice none 0 0) rfl (Sl.nil _ _ _) ⟨_, 0, none⟩ 1 1 rfl [.int .i64 (xr a kv)] rfl (cells_new _ _ (by simp) [.int .i64 (xr a kv)] 3) (by simp [Value.oneCell']) (by decide) ?_; intro vq0 wq0 hq0 hQ0))
  obtain ⟨gq0, hB0⟩ := hQ0 W4 ((Gr.refl _).alloc _) (by simp [blks])
  have z0q := gq0.val z0
  have z1q := gq0.val z1
  have z2q := gq0.val z2
  have z3q := gq0.val z3
  have z4q := gq0.val z4
  have z5q := gq0.val z5
  have z6q := gq0.val z6
  have t0q := gq0.val t0
  have t1q := gq0.val t1
  have t2q := gq0.val t2
  have t3q := gq0.val t3
  have t4q := gq0.val t4
  have t5q := gq0.val t5
  have t6q := gq0.val t6
  have kd3q := gq0.val kd3
  have rc0q := gq0.val rc0
  have rc1q := gq0.val rc1
  have lzq := cell_lt z0q
  have ltq := cell_lt t0q
  have lkq := cell_lt kd3q
  have lrq := cell_lt rc0q
  simp only at lzq ltq lkq lrq
  rw [rounds_succ]
  go_wp2_with (first | (at_builtin; refine wpList_append_sl _ rfl _ _ 32 rfl Tryd.underlying32 info_int rfl (by decide) vq0 rfl (hq0.gr ((Gr.refl _).alloc _)) ⟨_, 0, none⟩ 1 1 rfl [.int .i64 (xr b kv)] rfl (cells_new _ _ (by simp) [.int .i64 (xr b kv)] 3) (by simp [Value.oneCell']) (by decide) ?_; intro vq1 wq1 hq1 hQ1))
  obtain ⟨gq1, hB1⟩ := hQ1 W4 (gq0.alloc _) hB0
  replace z0q := gq1.val z0
  replace z1q := gq1.val z1
  replace z2q := gq1.val z2
  replace z3q := gq1.val z3
  replace z4q := gq1.val z4
  replace z5q := gq1.val z5
  replace z6q := gq1.val z6
  replace t0q := gq1.val t0
  replace t1q := gq1.val t1
  replace t2q := gq1.val t2
  replace t3q := gq1.val t3
  replace t4q := gq1.val t4
  replace t5q := gq1.val t5
  replace t6q := gq1.val t6
  replace kd3q := gq1.val kd3
  replace rc0q := gq1.val rc0
  replace rc1q := gq1.val rc1
  replace lzq := cell_lt z0q
  replace ltq := cell_lt t0q
  replace lkq := cell_lt kd3q
  replace lrq := cell_lt rc0q
  simp only at lzq ltq lkq lrq
  rw [rounds_succ]
  go_wp2_with (fail)
  clear z0 z1 z2 z3 z4 z5 z6 t0 t1 t2 t3 t4 t5 t6 kd3 rc0 rc1 lz lt lk lr lzq ltq lkq lrq
  have z0 := z0q
  clear z0q
  have z1 := z1q
  clear z1q
  have z2 := z2q
  clear z2q
  have z3 := z3q
  clear z3q
  have z4 := z4q
  clear z4q
  have z5 := z5q
  clear z5q
  have z6 := z6q
  clear z6q
  have t0 := t0q
  clear t0q
  have t1 := t1q
  clear t1q
  have t2 := t2q
  clear t2q
  have t3 := t3q
  clear t3q
  have t4 := t4q
  clear t4q
  have t5 := t5q
  clear t5q
  have t6 := t6q
  clear t6q
  have kd3 := kd3q
  clear kd3q
  have rc0 := rc0q
  clear rc0q
  have rc1 := rc1q
  clear rc1q
  have HG5 := hid (HG4.out.trans gq1)
  have HG5r := hid (HG4r.out.trans gq1)
  replace SR := hid (SR.out.gr gq1)
  have ST : Hid (Sl wq1 3 1 vq1 2 (ivals [xr a kv, xr b kv])) := hq1
  clear hq0 hQ0 gq0 hB0 hq1 hQ1 gq1 hB1 HG4 HG4r
  refine (HON.out _ HG5.out).mono ?_
  rintro e w6 ⟨rfl, hg6⟩
  dsimp only
  replace z0 := hg6.val z0
  replace z1 := hg6.val z1
  replace z2 := hg6.val z2
  replace z3 := hg6.val z3
  replace z4 := hg6.val z4
  replace z5 := hg6.val z5
  replace z6 := hg6.val z6
  replace t0 := hg6.val t0
  replace t1 := hg6.val t1
  replace t2 := hg6.val t2
  replace t3 := hg6.val t3
  replace t4 := hg6.val t4
  replace t5 := hg6.val t5
  replace t6 := hg6.val t6
  replace kd3 := hg6.val kd3
  replace SR := hid (SR.out.gr hg6)
  replace ST := hid (ST.out.gr hg6)
  replace HG5 := hid (HG5.out.trans hg6)
  replace HG5r := hid (HG5r.out.trans hg6)
  clear hg6
  have lz := cell_lt z0
  have lt := cell_lt t0
  simp only at lz lt
  go_wp2_with (fail)
  refine (HRZ.out _ (HG5.out.alloc _)).mono ?_
  rintro e w7 ⟨v7, rfl, hs7, hg7⟩
  dsimp only
  have GA := ((Gr.refl w6).alloc (.cells #[.int .u8 2, .int .u8 4, .int .i64 d, .int .i64 a, .int .i64 b, .int .i64 0, .int .i64 0] 25)).trans hg7
  replace z0 := GA.val z0
  replace z1 := GA.val z1
  replace z2 := GA.val z2
  replace z3 := GA.val z3
  replace z4 := GA.val z4
  replace z5 := GA.val z5
  replace z6 := GA.val z6
  replace t0 := GA.val t0
  replace t1 := GA.val t1
  replace t2 := GA.val t2
  replace t3 := GA.val t3
  replace t4 := GA.val t4
  replace t5 := GA.val t5
  replace t6 := GA.val t6
  replace kd3 := GA.val kd3
  replace SR := hid (SR.out.gr GA)
  replace ST := hid (ST.out.gr GA)
  replace HG5 := hid (HG5.out.trans GA)
  replace HG5r := hid (HG5r.out.trans GA)
  have o0 := hg7.boxed 0 (u := .int .u8 2) rfl
  have o1 := hg7.boxed 1 (u := .int .u8 4) rfl
  have o2 := hg7.boxed 2 (u := .int .i64 d) rfl
  have o3 := hg7.boxed 3 (u := .int .i64 a) rfl
  have o4 := hg7.boxed 4 (u := .int .i64 b) rfl
  have o5 := hg7.boxed 5 (u := .int .i64 0) rfl
  have o6 := hg7.boxed 6 (u := .int .i64 0) rfl
  generalize w6.heap.size = bo at *
  clear GA hg7 lz lt
  go_wp2_with (fail)
  have HE := equal_ints v7 (.slice (some ⟨br, 0, none⟩) 2 2) [a, b] [a, b] _ hs7 SR.out (by simp) (by simp)
  rw [show sameB [a, b] [a, b] = true by simp [sameB]] at HE
  refine HE.mono ?_
  clear HE
  rintro e w8 ⟨rfl, hg8⟩
  dsimp only
  replace z0 := hg8.val z0
  replace z1 := hg8.val z1
  replace z2 := hg8.val z2
  replace z3 := hg8.val z3
  replace z4 := hg8.val z4
  replace z5 := hg8.val z5
  replace z6 := hg8.val z6
  replace t0 := hg8.val t0
  replace t1 := hg8.val t1
  replace t2 := hg8.val t2
  replace t3 := hg8.val t3
  replace t4 := hg8.val t4
  replace t5 := hg8.val t5
  replace t6 := hg8.val t6
  replace kd3 := hg8.val kd3
  replace o0 := hg8.val o0
  replace o1 := hg8.val o1
  replace o2 := hg8.val o2
  replace o3 := hg8.val o3
  replace o4 := hg8.val o4
  replace o5 := hg8.val o5
  replace o6 := hg8.val o6
  replace SR := hid (SR.out.gr hg8)
  replace ST := hid (ST.out.gr hg8)
  replace HG5 := hid (HG5.out.trans hg8)
  replace HG5r := hid (HG5r.out.trans hg8)
  clear hg8 hs7
  go_wp2_with (fail)
  refine (HRT.out _ HG5.out).mono ?_
  rintro e w9 ⟨v9, rfl, hs9, hg9⟩
  dsimp only
  replace z0 := hg9.val z0
  replace z1 := hg9.val z1
  replace z2 := hg9.val z2
  replace z3 := hg9.val z3
  replace z4 := hg9.val z4
  replace z5 := hg9.val z5
  replace z6 := hg9.val z6
  replace t0 := hg9.val t0
  replace t1 := hg9.val t1
  replace t2 := hg9.val t2
  replace t3 := hg9.val t3
  replace t4 := hg9.val t4
  replace t5 := hg9.val t5
  replace t6 := hg9.val t6
  replace kd3 := hg9.val kd3
  replace o0 := hg9.val o0
  replace o1 := hg9.val o1
  replace o2 := hg9.val o2
  replace o3 := hg9.val o3
  replace o4 := hg9.val o4
  replace o5 := hg9.val o5
  replace o6 := hg9.val o6
  replace SR := hid (SR.out.gr hg9)
  replace ST := hid (ST.out.gr hg9)
  replace HG5 := hid (HG5.out.trans hg9)
  replace HG5r := hid (HG5r.out.trans hg9)
  clear hg9
  go_wp2_with (fail)
  have HE := equal_ints v9 vq1 [xr a kv, xr b kv] [xr a kv, xr b kv] _ hs9 ST.out (by simp) (by simp)
  rw [show sameB [xr a kv, xr b kv] [xr a kv, xr b kv] = true by simp [sameB]] at HE
  refine HE.mono ?_
  clear HE
  rintro e w10 ⟨rfl, hg10⟩
  dsimp only
  replace z0 := hg10.val z0
  replace z1 := hg10.val z1
  replace z2 := hg10.val z2
  replace z3 := hg10.val z3
  replace z4 := hg10.val z4
  replace z5 := hg10.val z5
  replace z6 := hg10.val z6
  replace t0 := hg10.val t0
  replace t1 := hg10.val t1
  replace t2 := hg10.val t2
  replace t3 := hg10.val t3
  replace t4 := hg10.val t4
  replace t5 := hg10.val t5
  replace t6 := hg10.val t6
  replace kd3 := hg10.val kd3
  replace o0 := hg10.val o0
  replace o1 := hg10.val o1
  replace o2 := hg10.val o2
  replace o3 := hg10.val o3
  replace o4 := hg10.val o4
  replace o5 := hg10.val o5
  replace o6 := hg10.val o6
  replace SR := hid (SR.out.gr hg10)
  replace ST := hid (ST.out.gr hg10)
  replace HG5 := hid (HG5.out.trans hg10)
  replace HG5r := hid (HG5r.out.trans hg10)
  clear hg10 hs9
  go_wp2_with (fail)
  have HPU : Hid (∀ W, Calls Tryd.prog 17 #[.agg #[.int .u8 2, .int .u8 4, .int .i64 d, .int .i64 a, .int .i64 b, .int .i64 n, .int .i64 s]] W fun e w' => e = .returned (.bool false) ∧ Gr W w') := fun W => by
    have := pure_any (2) 4 d a b n s W
    rwa [show pureB (2) 4 = false by simp [pureB, trapsB]] at this
  have HOO : Hid (∀ W, Gr w0 W → Calls Tryd.prog 14 #[.agg #[.int .u8 2, .int .u8 4, .int .i64 d, .int .i64 a, .int .i64 b, .int .i64 0, .int .i64 0]] W fun e w' => e = .returned (.agg #[.int .u8 2, .int .u8 4, .int .i64 d, .int .i64 a, .int .i64 b, .int .i64 0, .int .i64 0]) ∧ Gr W w') := fun W g => by
    have := only_any (2) (by omega) (4) (d) (a) (b) (0) (0) W (HK.out.gr g)
    exact this
  refine wp_region_noPanic ?_
  refine wp_region_held_drew (S := fun w' => w'.cell? ⟨bz, 0, none⟩ = some (.int .u8 2) ∧ w'.cell? ⟨bz, 1, none⟩ = some (.int .u8 4) ∧ w'.cell? ⟨bz, 2, none⟩ = some (.int .i64 d) ∧ w'.cell? ⟨bz, 3, none⟩ = some (.int .i64 a) ∧ w'.cell? ⟨bz, 4, none⟩ = some (.int .i64 b) ∧ w'.cell? ⟨bz, 5, none⟩ = some (.int .i64 n) ∧ w'.cell? ⟨bz, 6, none⟩ = some (.int .i64 s) ∧ w'.cell? ⟨bo, 0, none⟩ = some (.int .u8 2) ∧ w'.cell? ⟨bo, 1, none⟩ = some (.int .u8 4) ∧ w'.cell? ⟨bo, 2, none⟩ = some (.int .i64 d) ∧ w'.cell? ⟨bo, 3, none⟩ = some (.int .i64 a) ∧ w'.cell? ⟨bo, 4, none⟩ = some (.int .i64 b) ∧ w'.cell? ⟨bo, 5, none⟩ = some (.int .i64 0) ∧ w'.cell? ⟨bo, 6, none⟩ = some (.int .i64 0) ∧ Gr w10 w') hm ⟨z0, z1, z2, z3, z4, z5, z6, o0, o1, o2, o3, o4, o5, o6, (Gr.refl _).drew⟩ (fun hHeld => ?_)
  refine wpAnyH_take (i := 0) (oi := { dst := some 172, op := Go.Op.load 25 (Go.Operand.tmp 10), type := 25, pos := "law.go:110", after := #[], guard := none }) (v := ?_) rfl (by kernel_rfl) (by kernel_rfl) (by kernel_rfl) (fun _ _ _ h => h) (Or.inl ⟨by rfl, ?_⟩) (by assumption) ?_
  rotate_left
  (intro w hSw; (try dsimp only at hSw); go_simp; try (with_reducible rfl))
  simp only [Act.put, List.setIfInBounds_toArray, List.set_cons_zero, List.set_cons_succ]
  refine wpAnyH_take (i := 2) (oi := { dst := some 174, op := Go.Op.move (Go.Operand.tmp 20), type := 4, pos := "law.go:110", after := #[], guard := none }) (v := ?_) rfl (by kernel_rfl) (by kernel_rfl) (by kernel_rfl) (fun _ _ _ h => h) (Or.inl ⟨by rfl, ?_⟩) (by assumption) ?_
  rotate_left
  (intro w hSw; (try dsimp only at hSw); go_simp; try (with_reducible rfl))
  simp only [Act.put, List.setIfInBounds_toArray, List.set_cons_zero, List.set_cons_succ]
  refine wpAnyH_ready (rs := [1]) (by kernel_rfl) (by simp) (AllReadyH.cons (o := { dst := some 173, op := Go.Op.call { callee := Go.Callee.value (Go.Operand.func 17), args := #[Go.Operand.tmp 172], argTypes := #[25] }, type := 4, pos := "law.go:110", after := #[{ on := 0, ground := Go.Ground.data }], guard := none }) rfl (fun K hK => ?_) AllReadyH.nil)
  go_simp
  first | (go_at_call 17; refine (HPU.out _).mono ?_; rintro e w11 ⟨rfl, hgx⟩) | (go_at_call 14; refine (HOO.out _ (HG5.out.trans hHeld.2.2.2.2.2.2.2.2.2.2.2.2.2.2)).mono ?_; rintro e w12 ⟨rfl, hgx⟩) | (go_at_call 16; refine (HRO.out _ (HG5.out.trans hHeld.2.2.2.2.2.2.2.2.2.2.2.2.2.2)).mono ?_; rintro e w13 ⟨v13, rfl, hs13, hgx⟩) | (go_at_call 15; have HE := equal_ints v13 (.slice (some ⟨br, 0, none⟩) 2 2) [a, b] [a, b] _ hs13 (SR.out.gr hHeld.2.2.2.2.2.2.2.2.2.2.2.2.2.2) (by simp) (by simp); rw [show sameB [a, b] [a, b] = true by simp [sameB]] at HE; refine HE.mono ?_; clear HE; rintro e w14 ⟨rfl, hgx⟩)
  go_simp
  refine hK.out _ _ (keep14 hgx (by assumption)) (fun hH2 => ?_)
  clear hHeld hK K
  have hHeld := hH2
  clear hH2
  try simp only [Act.put, List.setIfInBounds_toArray, List.set_cons_zero, List.set_cons_succ]
  refine wpAnyH_take (i := 3) (oi := { dst := some 175, op := Go.Op.binOp Go.BinOp.neq 4 (Go.Operand.tmp 173) (Go.Operand.tmp 174) 4, type := 4, pos := "law.go:110", after := #[{ on := 1, ground := Go.Ground.data }, { on := 2, ground := Go.Ground.data }], guard := none }) (v := ?_) rfl (by kernel_rfl) (by kernel_rfl) (by kernel_rfl) (fun _ _ _ h => h) (Or.inl ⟨by rfl, ?_⟩) (by assumption) ?_
  rotate_left
  (intro w hSw; (try dsimp only at hSw); go_simp; try (with_reducible rfl))
  simp only [Act.put, List.setIfInBounds_toArray, List.set_cons_zero, List.set_cons_succ]
  refine wpAnyH_take (i := 4) (oi := { dst := some 176, op := Go.Op.move (Go.Operand.tmp 175), type := 4, pos := "law.go:110", after := #[{ on := 3, ground := Go.Ground.data }, { on := 1, ground := Go.Ground.chain }], guard := none }) (v := ?_) rfl (by kernel_rfl) (by kernel_rfl) (by kernel_rfl) (fun _ _ _ h => h) (Or.inl ⟨by rfl, ?_⟩) (by assumption) ?_
  rotate_left
  (intro w hSw; (try dsimp only at hSw); go_simp; try (with_reducible rfl))
  simp only [Act.put, List.setIfInBounds_toArray, List.set_cons_zero, List.set_cons_succ]
  refine wpAnyH_take (i := 5) (oi := { dst := some 177, op := Go.Op.load 25 (Go.Operand.tmp 19), type := 25, pos := "law.go:110", after := #[{ on := 4, ground := Go.Ground.guard }], guard := some (4, false) }) (v := ?_) rfl (by kernel_rfl) (by kernel_rfl) (by kernel_rfl) (fun _ _ _ h => h) (Or.inl ⟨by rfl, ?_⟩) (by assumption) ?_
  rotate_left
  (intro w hSw; (try dsimp only at hSw); go_simp; try (with_reducible rfl))
  simp only [Act.put, List.setIfInBounds_toArray, List.set_cons_zero, List.set_cons_succ]
  refine wpAnyH_take (i := 6) (oi := { dst := some 178, op := Go.Op.load 25 (Go.Operand.tmp 19), type := 25, pos := "law.go:110", after := #[{ on := 4, ground := Go.Ground.guard }], guard := some (4, false) }) (v := ?_) rfl (by kernel_rfl) (by kernel_rfl) (by kernel_rfl) (fun _ _ _ h => h) (Or.inl ⟨by rfl, ?_⟩) (by assumption) ?_
  rotate_left
  (intro w hSw; (try dsimp only at hSw); go_simp; try (with_reducible rfl))
  simp only [Act.put, List.setIfInBounds_toArray, List.set_cons_zero, List.set_cons_succ]
  refine wpAnyH_ready (rs := [7]) (by kernel_rfl) (by simp) (AllReadyH.cons (o := { dst := some 179, op := Go.Op.call { callee := Go.Callee.value (Go.Operand.func 14), args := #[Go.Operand.tmp 178], argTypes := #[25] }, type := 25, pos := "law.go:110", after := #[{ on := 6, ground := Go.Ground.data }, { on := 4, ground := Go.Ground.chain }, { on := 4, ground := Go.Ground.guard }], guard := some (4, false) }) rfl (fun K hK => ?_) AllReadyH.nil)
  go_simp
  first | (go_at_call 17; refine (HPU.out _).mono ?_; rintro e w11 ⟨rfl, hgx⟩) | (go_at_call 14; refine (HOO.out _ (HG5.out.trans hHeld.2.2.2.2.2.2.2.2.2.2.2.2.2.2)).mono ?_; rintro e w12 ⟨rfl, hgx⟩) | (go_at_call 16; refine (HRO.out _ (HG5.out.trans hHeld.2.2.2.2.2.2.2.2.2.2.2.2.2.2)).mono ?_; rintro e w13 ⟨v13, rfl, hs13, hgx⟩) | (go_at_call 15; have HE := equal_ints v13 (.slice (some ⟨br, 0, none⟩) 2 2) [a, b] [a, b] _ hs13 (SR.out.gr hHeld.2.2.2.2.2.2.2.2.2.2.2.2.2.2) (by simp) (by simp); rw [show sameB [a, b] [a, b] = true by simp [sameB]] at HE; refine HE.mono ?_; clear HE; rintro e w14 ⟨rfl, hgx⟩)
  go_simp
  refine hK.out _ _ (keep14 hgx (by assumption)) (fun hH2 => ?_)
  clear hHeld hK K
  have hHeld := hH2
  clear hH2
  try simp only [Act.put, List.setIfInBounds_toArray, List.set_cons_zero, List.set_cons_succ]
  refine wpAnyH_take (i := 8) (oi := { dst := some 180, op := Go.Op.binOp Go.BinOp.neq 25 (Go.Operand.tmp 177) (Go.Operand.tmp 179) 25, type := 4, pos := "law.go:110", after := #[{ on := 5, ground := Go.Ground.data }, { on := 7, ground := Go.Ground.data }, { on := 4, ground := Go.Ground.guard }], guard := some (4, false) }) (v := ?_) rfl (by kernel_rfl) (by kernel_rfl) (by kernel_rfl) (fun _ _ _ h => h) (Or.inl ⟨by rfl, ?_⟩) (by assumption) ?_
  rotate_left
  (intro w hSw; (try dsimp only at hSw); go_simp; try (with_reducible rfl))
  simp only [Act.put, List.setIfInBounds_toArray, List.set_cons_zero, List.set_cons_succ]
  refine wpAnyH_take (i := 9) (oi := { dst := some 181, op := Go.Op.pick (Go.Operand.tmp 176) (Go.Operand.const (Go.Value.bool true)) (Go.Operand.tmp 180), type := 4, pos := "law.go:110", after := #[{ on := 4, ground := Go.Ground.data }, { on := 8, ground := Go.Ground.data }], guard := none }) (v := ?_) rfl (by kernel_rfl) (by kernel_rfl) (by kernel_rfl) (fun _ _ _ h => h) (Or.inl ⟨by rfl, ?_⟩) (by assumption) ?_
  rotate_left
  (intro w hSw; (try dsimp only at hSw); go_simp; try (with_reducible rfl))
  simp only [Act.put, List.setIfInBounds_toArray, List.set_cons_zero, List.set_cons_succ]
  refine wpAnyH_take (i := 10) (oi := { dst := some 182, op := Go.Op.move (Go.Operand.tmp 181), type := 4, pos := "law.go:110", after := #[{ on := 9, ground := Go.Ground.data }, { on := 7, ground := Go.Ground.chain }], guard := none }) (v := ?_) rfl (by kernel_rfl) (by kernel_rfl) (by kernel_rfl) (fun _ _ _ h => h) (Or.inl ⟨by rfl, ?_⟩) (by assumption) ?_
  rotate_left
  (intro w hSw; (try dsimp only at hSw); go_simp; try (with_reducible rfl))
  simp only [Act.put, List.setIfInBounds_toArray, List.set_cons_zero, List.set_cons_succ]
  refine wpAnyH_take (i := 11) (oi := { dst := some 183, op := Go.Op.load 25 (Go.Operand.tmp 19), type := 25, pos := "law.go:110", after := #[{ on := 10, ground := Go.Ground.guard }], guard := some (10, false) }) (v := ?_) rfl (by kernel_rfl) (by kernel_rfl) (by kernel_rfl) (fun _ _ _ h => h) (Or.inl ⟨by rfl, ?_⟩) (by assumption) ?_
  rotate_left
  (intro w hSw; (try dsimp only at hSw); go_simp; try (with_reducible rfl))
  simp only [Act.put, List.setIfInBounds_toArray, List.set_cons_zero, List.set_cons_succ]
  refine wpAnyH_take (i := 13) (oi := { dst := some 185, op := Go.Op.move (Go.Operand.tmp 12), type := 32, pos := "law.go:110", after := #[{ on := 10, ground := Go.Ground.guard }], guard := some (10, false) }) (v := ?_) rfl (by kernel_rfl) (by kernel_rfl) (by kernel_rfl) (fun _ _ _ h => h) (Or.inl ⟨by rfl, ?_⟩) (by assumption) ?_
  rotate_left
  (intro w hSw; (try dsimp only at hSw); go_simp; try (with_reducible rfl))
  simp only [Act.put, List.setIfInBounds_toArray, List.set_cons_zero, List.set_cons_succ]
  refine wpAnyH_ready (rs := [12]) (by kernel_rfl) (by simp) (AllReadyH.cons (o := { dst := some 184, op := Go.Op.call { callee := Go.Callee.value (Go.Operand.func 16), args := #[Go.Operand.tmp 183], argTypes := #[25] }, type := 32, pos := "law.go:110", after := #[{ on := 11, ground := Go.Ground.data }, { on := 10, ground := Go.Ground.chain }, { on := 10, ground := Go.Ground.guard }], guard := some (10, false) }) rfl (fun K hK => ?_) AllReadyH.nil)
  go_simp
  first | (go_at_call 17; refine (HPU.out _).mono ?_; rintro e w11 ⟨rfl, hgx⟩) | (go_at_call 14; refine (HOO.out _ (HG5.out.trans hHeld.2.2.2.2.2.2.2.2.2.2.2.2.2.2)).mono ?_; rintro e w12 ⟨rfl, hgx⟩) | (go_at_call 16; refine (HRO.out _ (HG5.out.trans hHeld.2.2.2.2.2.2.2.2.2.2.2.2.2.2)).mono ?_; rintro e w13 ⟨v13, rfl, hs13, hgx⟩) | (go_at_call 15; have HE := equal_ints v13 (.slice (some ⟨br, 0, none⟩) 2 2) [a, b] [a, b] _ hs13 (SR.out.gr hHeld.2.2.2.2.2.2.2.2.2.2.2.2.2.2) (by simp) (by simp); rw [show sameB [a, b] [a, b] = true by simp [sameB]] at HE; refine HE.mono ?_; clear HE; rintro e w14 ⟨rfl, hgx⟩)
  go_simp
  refine hK.out _ _ (keep14 hgx (by assumption)) (fun hH2 => ?_)
  clear hHeld hK K
  have hHeld := hH2
  clear hH2
  try simp only [Act.put, List.setIfInBounds_toArray, List.set_cons_zero, List.set_cons_succ]
  refine wpAnyH_ready (rs := [14]) (by kernel_rfl) (by simp) (AllReadyH.cons (o := { dst := some 186, op := Go.Op.call { callee := Go.Callee.value (Go.Operand.func 15), args := #[Go.Operand.tmp 184, Go.Operand.tmp 185], argTypes := #[32, 32] }, type := 4, pos := "law.go:110", after := #[{ on := 12, ground := Go.Ground.data }, { on := 13, ground := Go.Ground.data }, { on := 12, ground := Go.Ground.chain }, { on := 10, ground := Go.Ground.guard }], guard := some (10, false) }) rfl (fun K hK => ?_) AllReadyH.nil)
  go_simp
  first | (go_at_call 17; refine (HPU.out _).mono ?_; rintro e w11 ⟨rfl, hgx⟩) | (go_at_call 14; refine (HOO.out _ (HG5.out.trans hHeld.2.2.2.2.2.2.2.2.2.2.2.2.2.2)).mono ?_; rintro e w12 ⟨rfl, hgx⟩) | (go_at_call 16; refine (HRO.out _ (HG5.out.trans hHeld.2.2.2.2.2.2.2.2.2.2.2.2.2.2)).mono ?_; rintro e w13 ⟨v13, rfl, hs13, hgx⟩) | (go_at_call 15; have HE := equal_ints v13 (.slice (some ⟨br, 0, none⟩) 2 2) [a, b] [a, b] _ hs13 (SR.out.gr hHeld.2.2.2.2.2.2.2.2.2.2.2.2.2.2) (by simp) (by simp); rw [show sameB [a, b] [a, b] = true by simp [sameB]] at HE; refine HE.mono ?_; clear HE; rintro e w14 ⟨rfl, hgx⟩)
  go_simp
  refine hK.out _ _ (keep14 hgx (by assumption)) (fun hH2 => ?_)
  clear hHeld hK K
  have hHeld := hH2
  clear hH2
  try simp only [Act.put, List.setIfInBounds_toArray, List.set_cons_zero, List.set_cons_succ]
  refine wpAnyH_take (i := 15) (oi := { dst := some 187, op := Go.Op.unOp Go.UnOp.not 4 (Go.Operand.tmp 186), type := 4, pos := "law.go:110", after := #[{ on := 14, ground := Go.Ground.data }, { on := 10, ground := Go.Ground.guard }], guard := some (10, false) }) (v := ?_) rfl (by kernel_rfl) (by kernel_rfl) (by kernel_rfl) (fun _ _ _ h => h) (Or.inl ⟨by rfl, ?_⟩) (by assumption) ?_
  rotate_left
  (intro w hSw; (try dsimp only at hSw); go_simp; try (with_reducible rfl))
  simp only [Act.put, List.setIfInBounds_toArray, List.set_cons_zero, List.set_cons_succ]
  refine wpAnyH_take (i := 16) (oi := { dst := some 188, op := Go.Op.pick (Go.Operand.tmp 182) (Go.Operand.const (Go.Value.bool true)) (Go.Operand.tmp 187), type := 4, pos := "law.go:110", after := #[{ on := 10, ground := Go.Ground.data }, { on := 15, ground := Go.Ground.data }], guard := none }) (v := ?_) rfl (by kernel_rfl) (by kernel_rfl) (by kernel_rfl) (fun _ _ _ h => h) (Or.inl ⟨by rfl, ?_⟩) (by assumption) ?_
  rotate_left
  (intro w hSw; (try dsimp only at hSw); go_simp; try (with_reducible rfl))
  simp only [Act.put, List.setIfInBounds_toArray, List.set_cons_zero, List.set_cons_succ]
  refine wpAnyH_take (i := 17) (oi := { dst := some 189, op := Go.Op.move (Go.Operand.tmp 188), type := 4, pos := "law.go:110", after := #[{ on := 16, ground := Go.Ground.data }, { on := 14, ground := Go.Ground.chain }], guard := none }) (v := ?_) rfl (by kernel_rfl) (by kernel_rfl) (by kernel_rfl) (fun _ _ _ h => h) (Or.inl ⟨by rfl, ?_⟩) (by assumption) ?_
  rotate_left
  (intro w hSw; (try dsimp only at hSw); go_simp; try (with_reducible rfl))
  simp only [Act.put, List.setIfInBounds_toArray, List.set_cons_zero, List.set_cons_succ]
  refine wpAnyH_take (i := 18) (oi := { dst := some 190, op := Go.Op.fieldAddr 25 (Go.Operand.tmp 19) 0, type := 0, pos := "law.go:110", after := #[{ on := 17, ground := Go.Ground.guard }], guard := some (17, false) }) (v := ?_) rfl (by kernel_rfl) (by kernel_rfl) (by kernel_rfl) (fun _ _ _ h => h) (Or.inl ⟨by rfl, ?_⟩) (by assumption) ?_
  rotate_left
  (intro w hSw; (try dsimp only at hSw); go_simp; try (with_reducible rfl))
  simp only [Act.put, List.setIfInBounds_toArray, List.set_cons_zero, List.set_cons_succ]
  refine wpAnyH_take (i := 19) (oi := { dst := some 191, op := Go.Op.load 22 (Go.Operand.tmp 190), type := 22, pos := "law.go:110", after := #[{ on := 18, ground := Go.Ground.data }, { on := 17, ground := Go.Ground.guard }], guard := some (17, false) }) (v := ?_) rfl (by kernel_rfl) (by kernel_rfl) (by kernel_rfl) (fun _ _ _ h => h) (Or.inl ⟨by rfl, ?_⟩) (by assumption) ?_
  rotate_left
  (intro w hSw; (try dsimp only at hSw); go_simp; try (with_reducible rfl))
  simp only [Act.put, List.setIfInBounds_toArray, List.set_cons_zero, List.set_cons_succ]
  refine wpAnyH_take (i := 20) (oi := { dst := some 192, op := Go.Op.fieldAddr 25 (Go.Operand.tmp 10) 0, type := 0, pos := "law.go:110", after := #[{ on := 17, ground := Go.Ground.guard }], guard := some (17, false) }) (v := ?_) rfl (by kernel_rfl) (by kernel_rfl) (by kernel_rfl) (fun _ _ _ h => h) (Or.inl ⟨by rfl, ?_⟩) (by assumption) ?_
  rotate_left
  (intro w hSw; (try dsimp only at hSw); go_simp; try (with_reducible rfl))
  simp only [Act.put, List.setIfInBounds_toArray, List.set_cons_zero, List.set_cons_succ]
  refine wpAnyH_take (i := 21) (oi := { dst := some 193, op := Go.Op.load 22 (Go.Operand.tmp 192), type := 22, pos := "law.go:110", after := #[{ on := 20, ground := Go.Ground.data }, { on := 17, ground := Go.Ground.guard }], guard := some (17, false) }) (v := ?_) rfl (by kernel_rfl) (by kernel_rfl) (by kernel_rfl) (fun _ _ _ h => h) (Or.inl ⟨by rfl, ?_⟩) (by assumption) ?_
  rotate_left
  (intro w hSw; (try dsimp only at hSw); go_simp; try (with_reducible rfl))
  simp only [Act.put, List.setIfInBounds_toArray, List.set_cons_zero, List.set_cons_succ]
  refine wpAnyH_take (i := 22) (oi := { dst := some 194, op := Go.Op.binOp Go.BinOp.neq 22 (Go.Operand.tmp 191) (Go.Operand.tmp 193) 22, type := 4, pos := "law.go:110", after := #[{ on := 19, ground := Go.Ground.data }, { on := 21, ground := Go.Ground.data }, { on := 17, ground := Go.Ground.guard }], guard := some (17, false) }) (v := ?_) rfl (by kernel_rfl) (by kernel_rfl) (by kernel_rfl) (fun _ _ _ h => h) (Or.inl ⟨by rfl, ?_⟩) (by assumption) ?_
  rotate_left
  (intro w hSw; (try dsimp only at hSw); go_simp; try (with_reducible rfl))
  simp only [Act.put, List.setIfInBounds_toArray, List.set_cons_zero, List.set_cons_succ]
  refine wpAnyH_take (i := 23) (oi := { dst := some 195, op := Go.Op.pick (Go.Operand.tmp 189) (Go.Operand.const (Go.Value.bool true)) (Go.Operand.tmp 194), type := 4, pos := "law.go:110", after := #[{ on := 17, ground := Go.Ground.data }, { on := 22, ground := Go.Ground.data }], guard := none }) (v := ?_) rfl (by kernel_rfl) (by kernel_rfl) (by kernel_rfl) (fun _ _ _ h => h) (Or.inl ⟨by rfl, ?_⟩) (by assumption) ?_
  rotate_left
  (intro w hSw; (try dsimp only at hSw); go_simp; try (with_reducible rfl))
  simp only [Act.put, List.setIfInBounds_toArray, List.set_cons_zero, List.set_cons_succ]
  refine wpAnyH_take (i := 24) (oi := { dst := some 196, op := Go.Op.move (Go.Operand.tmp 195), type := 4, pos := "law.go:110", after := #[{ on := 23, ground := Go.Ground.data }, { on := 17, ground := Go.Ground.chain }], guard := none }) (v := ?_) rfl (by kernel_rfl) (by kernel_rfl) (by kernel_rfl) (fun _ _ _ h => h) (Or.inl ⟨by rfl, ?_⟩) (by assumption) ?_
  rotate_left
  (intro w hSw; (try dsimp only at hSw); go_simp; try (with_reducible rfl))
  simp only [Act.put, List.setIfInBounds_toArray, List.set_cons_zero, List.set_cons_succ]
  refine wpAnyH_take (i := 25) (oi := { dst := some 197, op := Go.Op.fieldAddr 25 (Go.Operand.tmp 19) 5, type := 0, pos := "law.go:110", after := #[{ on := 24, ground := Go.Ground.guard }], guard := some (24, false) }) (v := ?_) rfl (by kernel_rfl) (by kernel_rfl) (by kernel_rfl) (fun _ _ _ h => h) (Or.inl ⟨by rfl, ?_⟩) (by assumption) ?_
  rotate_left
  (intro w hSw; (try dsimp only at hSw); go_simp; try (with_reducible rfl))
  simp only [Act.put, List.setIfInBounds_toArray, List.set_cons_zero, List.set_cons_succ]
  refine wpAnyH_take (i := 26) (oi := { dst := some 198, op := Go.Op.load 2 (Go.Operand.tmp 197), type := 2, pos := "law.go:110", after := #[{ on := 25, ground := Go.Ground.data }, { on := 24, ground := Go.Ground.guard }], guard := some (24, false) }) (v := ?_) rfl (by kernel_rfl) (by kernel_rfl) (by kernel_rfl) (fun _ _ _ h => h) (Or.inl ⟨by rfl, ?_⟩) (by assumption) ?_
  rotate_left
  (intro w hSw; (try dsimp only at hSw); go_simp; try (with_reducible rfl))
  simp only [Act.put, List.setIfInBounds_toArray, List.set_cons_zero, List.set_cons_succ]
  refine wpAnyH_take (i := 27) (oi := { dst := some 199, op := Go.Op.binOp Go.BinOp.neq 2 (Go.Operand.tmp 198) (Go.Operand.const (Go.Value.int Go.IntKind.i64 0)) 2, type := 4, pos := "law.go:110", after := #[{ on := 26, ground := Go.Ground.data }, { on := 24, ground := Go.Ground.guard }], guard := some (24, false) }) (v := ?_) rfl (by kernel_rfl) (by kernel_rfl) (by kernel_rfl) (fun _ _ _ h => h) (Or.inl ⟨by rfl, ?_⟩) (by assumption) ?_
  rotate_left
  (intro w hSw; (try dsimp only at hSw); go_simp; try (with_reducible rfl))
  simp only [Act.put, List.setIfInBounds_toArray, List.set_cons_zero, List.set_cons_succ]
  refine wpAnyH_take (i := 28) (oi := { dst := some 200, op := Go.Op.move (Go.Operand.tmp 199), type := 4, pos := "law.go:110", after := #[{ on := 27, ground := Go.Ground.data }, { on := 24, ground := Go.Ground.chain }, { on := 24, ground := Go.Ground.guard }], guard := some (24, false) }) (v := ?_) rfl (by kernel_rfl) (by kernel_rfl) (by kernel_rfl) (fun _ _ _ h => h) (Or.inl ⟨by rfl, ?_⟩) (by assumption) ?_
  rotate_left
  (intro w hSw; (try dsimp only at hSw); go_simp; try (with_reducible rfl))
  simp only [Act.put, List.setIfInBounds_toArray, List.set_cons_zero, List.set_cons_succ]
  refine wpAnyH_take (i := 29) (oi := { dst := some 201, op := Go.Op.fieldAddr 25 (Go.Operand.tmp 19) 0, type := 0, pos := "law.go:110", after := #[{ on := 28, ground := Go.Ground.guard }], guard := some (28, true) }) (v := undef) rfl (by kernel_rfl) (by kernel_rfl) (by kernel_rfl) (fun _ _ _ h => h) (Or.inr ⟨by rfl, rfl⟩) (by assumption) ?_
  simp only [Act.put, List.setIfInBounds_toArray, List.set_cons_zero, List.set_cons_succ]
  refine wpAnyH_take (i := 30) (oi := { dst := some 202, op := Go.Op.load 22 (Go.Operand.tmp 201), type := 22, pos := "law.go:110", after := #[{ on := 29, ground := Go.Ground.data }, { on := 28, ground := Go.Ground.guard }], guard := some (28, true) }) (v := undef) rfl (by kernel_rfl) (by kernel_rfl) (by kernel_rfl) (fun _ _ _ h => h) (Or.inr ⟨by rfl, rfl⟩) (by assumption) ?_
  simp only [Act.put, List.setIfInBounds_toArray, List.set_cons_zero, List.set_cons_succ]
  refine wpAnyH_take (i := 31) (oi := { dst := some 203, op := Go.Op.binOp Go.BinOp.neq 22 (Go.Operand.tmp 202) (Go.Operand.const (Go.Value.int Go.IntKind.u8 0)) 22, type := 4, pos := "law.go:110", after := #[{ on := 30, ground := Go.Ground.data }, { on := 28, ground := Go.Ground.guard }], guard := some (28, true) }) (v := undef) rfl (by kernel_rfl) (by kernel_rfl) (by kernel_rfl) (fun _ _ _ h => h) (Or.inr ⟨by rfl, rfl⟩) (by assumption) ?_
  simp only [Act.put, List.setIfInBounds_toArray, List.set_cons_zero, List.set_cons_succ]
  refine wpAnyH_take (i := 32) (oi := { dst := some 204, op := Go.Op.pick (Go.Operand.tmp 200) (Go.Operand.tmp 203) (Go.Operand.const (Go.Value.bool false)), type := 4, pos := "law.go:110", after := #[{ on := 28, ground := Go.Ground.data }, { on := 31, ground := Go.Ground.data }, { on := 24, ground := Go.Ground.guard }], guard := some (24, false) }) (v := ?_) rfl (by kernel_rfl) (by kernel_rfl) (by kernel_rfl) (fun _ _ _ h => h) (Or.inl ⟨by rfl, ?_⟩) (by assumption) ?_
  rotate_left
  (intro w hSw; (try dsimp only at hSw); go_simp; try (with_reducible rfl))
  simp only [Act.put, List.setIfInBounds_toArray, List.set_cons_zero, List.set_cons_succ]
  refine wpAnyH_take (i := 33) (oi := { dst := some 205, op := Go.Op.pick (Go.Operand.tmp 196) (Go.Operand.const (Go.Value.bool true)) (Go.Operand.tmp 204), type := 4, pos := "law.go:110", after := #[{ on := 24, ground := Go.Ground.data }, { on := 32, ground := Go.Ground.data }], guard := none }) (v := ?_) rfl (by kernel_rfl) (by kernel_rfl) (by kernel_rfl) (fun _ _ _ h => h) (Or.inl ⟨by rfl, ?_⟩) (by assumption) ?_
  rotate_left
  (intro w hSw; (try dsimp only at hSw); go_simp; try (with_reducible rfl))
  simp only [Act.put, List.setIfInBounds_toArray, List.set_cons_zero, List.set_cons_succ]
  refine wpAnyH_take (i := 34) (oi := { dst := some 206, op := Go.Op.move (Go.Operand.tmp 205), type := 4, pos := "law.go:110", after := #[{ on := 33, ground := Go.Ground.data }, { on := 28, ground := Go.Ground.chain }], guard := none }) (v := ?_) rfl (by kernel_rfl) (by kernel_rfl) (by kernel_rfl) (fun _ _ _ h => h) (Or.inl ⟨by rfl, ?_⟩) (by assumption) ?_
  rotate_left
  (intro w hSw; (try dsimp only at hSw); go_simp; try (with_reducible rfl))
  simp only [Act.put, List.setIfInBounds_toArray, List.set_cons_zero, List.set_cons_succ]
  refine wpAnyH_take (i := 35) (oi := { dst := some 207, op := Go.Op.fieldAddr 25 (Go.Operand.tmp 19) 6, type := 0, pos := "law.go:110", after := #[{ on := 34, ground := Go.Ground.guard }], guard := some (34, false) }) (v := ?_) rfl (by kernel_rfl) (by kernel_rfl) (by kernel_rfl) (fun _ _ _ h => h) (Or.inl ⟨by rfl, ?_⟩) (by assumption) ?_
  rotate_left
  (intro w hSw; (try dsimp only at hSw); go_simp; try (with_reducible rfl))
  simp only [Act.put, List.setIfInBounds_toArray, List.set_cons_zero, List.set_cons_succ]
  refine wpAnyH_take (i := 36) (oi := { dst := some 208, op := Go.Op.load 3 (Go.Operand.tmp 207), type := 3, pos := "law.go:110", after := #[{ on := 35, ground := Go.Ground.data }, { on := 34, ground := Go.Ground.guard }], guard := some (34, false) }) (v := ?_) rfl (by kernel_rfl) (by kernel_rfl) (by kernel_rfl) (fun _ _ _ h => h) (Or.inl ⟨by rfl, ?_⟩) (by assumption) ?_
  rotate_left
  (intro w hSw; (try dsimp only at hSw); go_simp; try (with_reducible rfl))
  simp only [Act.put, List.setIfInBounds_toArray, List.set_cons_zero, List.set_cons_succ]
  refine wpAnyH_take (i := 37) (oi := { dst := some 209, op := Go.Op.binOp Go.BinOp.neq 3 (Go.Operand.tmp 208) (Go.Operand.const (Go.Value.int Go.IntKind.i64 0)) 3, type := 4, pos := "law.go:110", after := #[{ on := 36, ground := Go.Ground.data }, { on := 34, ground := Go.Ground.guard }], guard := some (34, false) }) (v := ?_) rfl (by kernel_rfl) (by kernel_rfl) (by kernel_rfl) (fun _ _ _ h => h) (Or.inl ⟨by rfl, ?_⟩) (by assumption) ?_
  rotate_left
  (intro w hSw; (try dsimp only at hSw); go_simp; try (with_reducible rfl))
  simp only [Act.put, List.setIfInBounds_toArray, List.set_cons_zero, List.set_cons_succ]
  refine wpAnyH_take (i := 38) (oi := { dst := some 210, op := Go.Op.move (Go.Operand.tmp 209), type := 4, pos := "law.go:110", after := #[{ on := 37, ground := Go.Ground.data }, { on := 34, ground := Go.Ground.chain }, { on := 34, ground := Go.Ground.guard }], guard := some (34, false) }) (v := ?_) rfl (by kernel_rfl) (by kernel_rfl) (by kernel_rfl) (fun _ _ _ h => h) (Or.inl ⟨by rfl, ?_⟩) (by assumption) ?_
  rotate_left
  (intro w hSw; (try dsimp only at hSw); go_simp; try (with_reducible rfl))
  simp only [Act.put, List.setIfInBounds_toArray, List.set_cons_zero, List.set_cons_succ]
  refine wpAnyH_take (i := 39) (oi := { dst := some 211, op := Go.Op.fieldAddr 25 (Go.Operand.tmp 19) 0, type := 0, pos := "law.go:110", after := #[{ on := 38, ground := Go.Ground.guard }], guard := some (38, true) }) (v := undef) rfl (by kernel_rfl) (by kernel_rfl) (by kernel_rfl) (fun _ _ _ h => h) (Or.inr ⟨by rfl, rfl⟩) (by assumption) ?_
  simp only [Act.put, List.setIfInBounds_toArray, List.set_cons_zero, List.set_cons_succ]
  refine wpAnyH_take (i := 40) (oi := { dst := some 212, op := Go.Op.load 22 (Go.Operand.tmp 211), type := 22, pos := "law.go:110", after := #[{ on := 39, ground := Go.Ground.data }, { on := 38, ground := Go.Ground.guard }], guard := some (38, true) }) (v := undef) rfl (by kernel_rfl) (by kernel_rfl) (by kernel_rfl) (fun _ _ _ h => h) (Or.inr ⟨by rfl, rfl⟩) (by assumption) ?_
  simp only [Act.put, List.setIfInBounds_toArray, List.set_cons_zero, List.set_cons_succ]
  refine wpAnyH_take (i := 41) (oi := { dst := some 213, op := Go.Op.binOp Go.BinOp.neq 22 (Go.Operand.tmp 212) (Go.Operand.const (Go.Value.int Go.IntKind.u8 5)) 22, type := 4, pos := "law.go:110", after := #[{ on := 40, ground := Go.Ground.data }, { on := 38, ground := Go.Ground.guard }], guard := some (38, true) }) (v := undef) rfl (by kernel_rfl) (by kernel_rfl) (by kernel_rfl) (fun _ _ _ h => h) (Or.inr ⟨by rfl, rfl⟩) (by assumption) ?_
  simp only [Act.put, List.setIfInBounds_toArray, List.set_cons_zero, List.set_cons_succ]
  refine wpAnyH_take (i := 42) (oi := { dst := some 214, op := Go.Op.pick (Go.Operand.tmp 210) (Go.Operand.tmp 213) (Go.Operand.const (Go.Value.bool false)), type := 4, pos := "law.go:110", after := #[{ on := 38, ground := Go.Ground.data }, { on := 41, ground := Go.Ground.data }, { on := 34, ground := Go.Ground.guard }], guard := some (34, false) }) (v := ?_) rfl (by kernel_rfl) (by kernel_rfl) (by kernel_rfl) (fun _ _ _ h => h) (Or.inl ⟨by rfl, ?_⟩) (by assumption) ?_
  rotate_left
  (intro w hSw; (try dsimp only at hSw); go_simp; try (with_reducible rfl))
  simp only [Act.put, List.setIfInBounds_toArray, List.set_cons_zero, List.set_cons_succ]
  refine wpAnyH_take (i := 43) (oi := { dst := some 215, op := Go.Op.move (Go.Operand.tmp 214), type := 4, pos := "law.go:110", after := #[{ on := 42, ground := Go.Ground.data }, { on := 38, ground := Go.Ground.chain }, { on := 34, ground := Go.Ground.guard }], guard := some (34, false) }) (v := ?_) rfl (by kernel_rfl) (by kernel_rfl) (by kernel_rfl) (fun _ _ _ h => h) (Or.inl ⟨by rfl, ?_⟩) (by assumption) ?_
  rotate_left
  (intro w hSw; (try dsimp only at hSw); go_simp; try (with_reducible rfl))
  simp only [Act.put, List.setIfInBounds_toArray, List.set_cons_zero, List.set_cons_succ]
  refine wpAnyH_take (i := 44) (oi := { dst := some 216, op := Go.Op.fieldAddr 25 (Go.Operand.tmp 19) 0, type := 0, pos := "law.go:110", after := #[{ on := 43, ground := Go.Ground.guard }], guard := some (43, true) }) (v := undef) rfl (by kernel_rfl) (by kernel_rfl) (by kernel_rfl) (fun _ _ _ h => h) (Or.inr ⟨by rfl, rfl⟩) (by assumption) ?_
  simp only [Act.put, List.setIfInBounds_toArray, List.set_cons_zero, List.set_cons_succ]
  refine wpAnyH_take (i := 45) (oi := { dst := some 217, op := Go.Op.load 22 (Go.Operand.tmp 216), type := 22, pos := "law.go:110", after := #[{ on := 44, ground := Go.Ground.data }, { on := 43, ground := Go.Ground.guard }], guard := some (43, true) }) (v := undef) rfl (by kernel_rfl) (by kernel_rfl) (by kernel_rfl) (fun _ _ _ h => h) (Or.inr ⟨by rfl, rfl⟩) (by assumption) ?_
  simp only [Act.put, List.setIfInBounds_toArray, List.set_cons_zero, List.set_cons_succ]
  refine wpAnyH_take (i := 46) (oi := { dst := some 218, op := Go.Op.binOp Go.BinOp.neq 22 (Go.Operand.tmp 217) (Go.Operand.const (Go.Value.int Go.IntKind.u8 6)) 22, type := 4, pos := "law.go:110", after := #[{ on := 45, ground := Go.Ground.data }, { on := 43, ground := Go.Ground.guard }], guard := some (43, true) }) (v := undef) rfl (by kernel_rfl) (by kernel_rfl) (by kernel_rfl) (fun _ _ _ h => h) (Or.inr ⟨by rfl, rfl⟩) (by assumption) ?_
  simp only [Act.put, List.setIfInBounds_toArray, List.set_cons_zero, List.set_cons_succ]
  refine wpAnyH_take (i := 47) (oi := { dst := some 219, op := Go.Op.pick (Go.Operand.tmp 215) (Go.Operand.tmp 218) (Go.Operand.const (Go.Value.bool false)), type := 4, pos := "law.go:110", after := #[{ on := 43, ground := Go.Ground.data }, { on := 46, ground := Go.Ground.data }, { on := 34, ground := Go.Ground.guard }], guard := some (34, false) }) (v := ?_) rfl (by kernel_rfl) (by kernel_rfl) (by kernel_rfl) (fun _ _ _ h => h) (Or.inl ⟨by rfl, ?_⟩) (by assumption) ?_
  rotate_left
  (intro w hSw; (try dsimp only at hSw); go_simp; try (with_reducible rfl))
  simp only [Act.put, List.setIfInBounds_toArray, List.set_cons_zero, List.set_cons_succ]
  refine wpAnyH_take (i := 48) (oi := { dst := some 220, op := Go.Op.pick (Go.Operand.tmp 206) (Go.Operand.const (Go.Value.bool true)) (Go.Operand.tmp 219), type := 4, pos := "law.go:110", after := #[{ on := 34, ground := Go.Ground.data }, { on := 47, ground := Go.Ground.data }], guard := none }) (v := ?_) rfl (by kernel_rfl) (by kernel_rfl) (by kernel_rfl) (fun _ _ _ h => h) (Or.inl ⟨by rfl, ?_⟩) (by assumption) ?_
  rotate_left
  (intro w hSw; (try dsimp only at hSw); go_simp; try (with_reducible rfl))
  simp only [Act.put, List.setIfInBounds_toArray, List.set_cons_zero, List.set_cons_succ]
  refine wpAnyH_take (i := 49) (oi := { dst := some 221, op := Go.Op.move (Go.Operand.tmp 220), type := 4, pos := "law.go:110", after := #[{ on := 48, ground := Go.Ground.data }, { on := 43, ground := Go.Ground.chain }], guard := none }) (v := ?_) rfl (by kernel_rfl) (by kernel_rfl) (by kernel_rfl) (fun _ _ _ h => h) (Or.inl ⟨by rfl, ?_⟩) (by assumption) ?_
  rotate_left
  (intro w hSw; (try dsimp only at hSw); go_simp; try (with_reducible rfl))
  simp only [Act.put, List.setIfInBounds_toArray, List.set_cons_zero, List.set_cons_succ]
  refine wpAnyH_take (i := 50) (oi := { dst := some 222, op := Go.Op.fieldAddr 25 (Go.Operand.tmp 19) 1, type := 0, pos := "law.go:110", after := #[{ on := 49, ground := Go.Ground.guard }], guard := some (49, false) }) (v := ?_) rfl (by kernel_rfl) (by kernel_rfl) (by kernel_rfl) (fun _ _ _ h => h) (Or.inl ⟨by rfl, ?_⟩) (by assumption) ?_
  rotate_left
  (intro w hSw; (try dsimp only at hSw); go_simp; try (with_reducible rfl))
  simp only [Act.put, List.setIfInBounds_toArray, List.set_cons_zero, List.set_cons_succ]
  refine wpAnyH_take (i := 51) (oi := { dst := some 223, op := Go.Op.load 23 (Go.Operand.tmp 222), type := 23, pos := "law.go:110", after := #[{ on := 50, ground := Go.Ground.data }, { on := 49, ground := Go.Ground.guard }], guard := some (49, false) }) (v := ?_) rfl (by kernel_rfl) (by kernel_rfl) (by kernel_rfl) (fun _ _ _ h => h) (Or.inl ⟨by rfl, ?_⟩) (by assumption) ?_
  rotate_left
  (intro w hSw; (try dsimp only at hSw); go_simp; try (with_reducible rfl))
  simp only [Act.put, List.setIfInBounds_toArray, List.set_cons_zero, List.set_cons_succ]
  refine wpAnyH_take (i := 52) (oi := { dst := some 224, op := Go.Op.binOp Go.BinOp.neq 23 (Go.Operand.tmp 223) (Go.Operand.const (Go.Value.int Go.IntKind.u8 0)) 23, type := 4, pos := "law.go:110", after := #[{ on := 51, ground := Go.Ground.data }, { on := 49, ground := Go.Ground.guard }], guard := some (49, false) }) (v := ?_) rfl (by kernel_rfl) (by kernel_rfl) (by kernel_rfl) (fun _ _ _ h => h) (Or.inl ⟨by rfl, ?_⟩) (by assumption) ?_
  rotate_left
  (intro w hSw; (try dsimp only at hSw); go_simp; try (with_reducible rfl))
  simp only [Act.put, List.setIfInBounds_toArray, List.set_cons_zero, List.set_cons_succ]
  refine wpAnyH_take (i := 53) (oi := { dst := some 225, op := Go.Op.move (Go.Operand.tmp 224), type := 4, pos := "law.go:110", after := #[{ on := 52, ground := Go.Ground.data }, { on := 49, ground := Go.Ground.chain }, { on := 49, ground := Go.Ground.guard }], guard := some (49, false) }) (v := ?_) rfl (by kernel_rfl) (by kernel_rfl) (by kernel_rfl) (fun _ _ _ h => h) (Or.inl ⟨by rfl, ?_⟩) (by assumption) ?_
  rotate_left
  (intro w hSw; (try dsimp only at hSw); go_simp; try (with_reducible rfl))
  simp only [Act.put, List.setIfInBounds_toArray, List.set_cons_zero, List.set_cons_succ]
  refine wpAnyH_take (i := 54) (oi := { dst := some 226, op := Go.Op.fieldAddr 25 (Go.Operand.tmp 19) 0, type := 0, pos := "law.go:110", after := #[{ on := 53, ground := Go.Ground.guard }], guard := some (53, true) }) (v := ?_) rfl (by kernel_rfl) (by kernel_rfl) (by kernel_rfl) (fun _ _ _ h => h) (Or.inl ⟨by rfl, ?_⟩) (by assumption) ?_
  rotate_left
  (intro w hSw; (try dsimp only at hSw); go_simp; try (with_reducible rfl))
  simp only [Act.put, List.setIfInBounds_toArray, List.set_cons_zero, List.set_cons_succ]
  refine wpAnyH_take (i := 55) (oi := { dst := some 227, op := Go.Op.load 22 (Go.Operand.tmp 226), type := 22, pos := "law.go:110", after := #[{ on := 54, ground := Go.Ground.data }, { on := 53, ground := Go.Ground.guard }], guard := some (53, true) }) (v := ?_) rfl (by kernel_rfl) (by kernel_rfl) (by kernel_rfl) (fun _ _ _ h => h) (Or.inl ⟨by rfl, ?_⟩) (by assumption) ?_
  rotate_left
  (intro w hSw; (try dsimp only at hSw); go_simp; try (with_reducible rfl))
  simp only [Act.put, List.setIfInBounds_toArray, List.set_cons_zero, List.set_cons_succ]
  refine wpAnyH_take (i := 56) (oi := { dst := some 228, op := Go.Op.binOp Go.BinOp.neq 22 (Go.Operand.tmp 227) (Go.Operand.const (Go.Value.int Go.IntKind.u8 2)) 22, type := 4, pos := "law.go:110", after := #[{ on := 55, ground := Go.Ground.data }, { on := 53, ground := Go.Ground.guard }], guard := some (53, true) }) (v := ?_) rfl (by kernel_rfl) (by kernel_rfl) (by kernel_rfl) (fun _ _ _ h => h) (Or.inl ⟨by rfl, ?_⟩) (by assumption) ?_
  rotate_left
  (intro w hSw; (try dsimp only at hSw); go_simp; try (with_reducible rfl))
  simp only [Act.put, List.setIfInBounds_toArray, List.set_cons_zero, List.set_cons_succ]
  refine wpAnyH_take (i := 57) (oi := { dst := some 229, op := Go.Op.pick (Go.Operand.tmp 225) (Go.Operand.tmp 228) (Go.Operand.const (Go.Value.bool false)), type := 4, pos := "law.go:110", after := #[{ on := 53, ground := Go.Ground.data }, { on := 56, ground := Go.Ground.data }, { on := 49, ground := Go.Ground.guard }], guard := some (49, false) }) (v := ?_) rfl (by kernel_rfl) (by kernel_rfl) (by kernel_rfl) (fun _ _ _ h => h) (Or.inl ⟨by rfl, ?_⟩) (by assumption) ?_
  rotate_left
  (intro w hSw; (try dsimp only at hSw); go_simp; try (with_reducible rfl))
  simp only [Act.put, List.setIfInBounds_toArray, List.set_cons_zero, List.set_cons_succ]
  refine wpAnyH_take (i := 58) (oi := { dst := some 230, op := Go.Op.pick (Go.Operand.tmp 221) (Go.Operand.const (Go.Value.bool true)) (Go.Operand.tmp 229), type := 4, pos := "law.go:110", after := #[{ on := 49, ground := Go.Ground.data }, { on := 57, ground := Go.Ground.data }], guard := none }) (v := ?_) rfl (by kernel_rfl) (by kernel_rfl) (by kernel_rfl) (fun _ _ _ h => h) (Or.inl ⟨by rfl, ?_⟩) (by assumption) ?_
  rotate_left
  (intro w hSw; (try dsimp only at hSw); go_simp; try (with_reducible rfl))
  simp only [Act.put, List.setIfInBounds_toArray, List.set_cons_zero, List.set_cons_succ]
  refine wpAnyH_done (by kernel_rfl) (NoPanic.normal ?_) _
  have HGf := hid (HG5r.out.trans hHeld.2.2.2.2.2.2.2.2.2.2.2.2.2.2)
  obtain ⟨q0, q1, q2, q3, q4, q5, q6, q7, q8, q9, q10, q11, q12, q13, _⟩ := hHeld
  go_simp
  go_wp2_with (fail)
  exact HEND.out _ _ _ _ _ _ _ _ _ _ _ _ _ _ _ _ _ _ _ _ _ _ _ _ _ _ _ _ _ _ _ _ _ _ _ _ _ _ _ _ _ _ _ _ _ _ _ _ _ _ _ _ _ _ _ _ _ _ _ _ _ _ _ _ _ _ _ _ _ _ _ _ _ _ _ _ _ _ _ _ _ _ _ _ _ _ _ _ _ _ _ _ _ _ _ _ _ _ _ _ _ _ _ _ _ _ _ _ _ _ _ _ _ _ _ _ _ _ _ _ _ _ _ _ _ _ _ _ _ _ _ _ _ _ _ _ _ _ _ _ _ _ _ _ _ _ _ _ _ _ _ _ _ _ _ _ _ _ _ _ _ _ _ _ _ _ _ _ _ _ _ _ _ _ _ _ _ _ _ _ _ _ _ _ _ _ _ _ _ _ _ _ _ _ _ _ _ _ _ _ _ _ _ _ _ _ _ _ _ _ _ _ _ _ _ _ _ _ _ _ _ _ _ _ _ _ _ _ _ _ _ _ _ _ _ _ _ _ _ _ _ _ _ _ _ _ _ _ _ _ _ _ _ _ _ _ _ _ _ _ _ _ _ _ _ _ _ _ _ _ _ _ _ _ _ _ _ _ HGf.out
set_option maxRecDepth 100000 in
set_option maxHeartbeats 2000000 in
theorem round_2d (n s : Int) : RoundAt 2 0 n s := by
  intro c hc Q d a b kv kb sb w0 wr i u0 u1 u2 u3 u4 u5 u7 u8 u9 u10 u11 u12 u13 u14 u15 u16 u17 u18 u19 u20 u21 u22 u23 u24 u25 u26 u27 u28 u32 u33 u34 u35 u36 u37 u38 u39 u40 u41 u42 u43 u44 u45 u46 u47 u48 u49 u50 u51 u52 u53 u54 u55 u56 u57 u58 u59 u60 u61 u62 u63 u64 u65 u66 u67 u68 u69 u70 u71 u72 u73 u74 u75 u76 u77 u78 u79 u80 u81 u82 u83 u84 u85 u86 u87 u88 u89 u90 u91 u92 u93 u94 u95 u96 u97 u98 u99 u100 u101 u102 u103 u104 u105 u106 u107 u108 u109 u110 u111 u112 u113 u114 u115 u116 u117 u118 u119 u120 u121 u122 u123 u124 u125 u126 u127 u128 u129 u130 u131 u132 u133 u134 u135 u136 u137 u138 u139 u140 u141 u142 u143 u144 u145 u146 u147 u148 u149 u150 u151 u152 u153 u154 u155 u156 u157 u158 u159 u160 u161 u162 u163 u164 u165 u166 u167 u168 u169 u170 u171 u172 u173 u174 u175 u176 u177 u178 u179 u180 u181 u182 u183 u184 u185 u186 u187 u188 u189 u190 u191 u192 u193 u194 u195 u196 u197 u198 u199 u200 u201 u202 u203 u204 u205 u206 u207 u208 u209 u210 u211 u212 u213 u214 u215 u216 u217 u218 u219 u220 u221 u222 u223 u224 u225 u226 u227 u228 u229 u230 u231 u232 u233 u234 u235 u236 u237 u238 u239 u240 u241 u242 u243 u244 u245 u246 u247 u248 u249 u250 u251 u252 u253 u254 u255 u256 u257 u258 u259 u260 u261 u262 u263 u264 u265 u266 u267 u268 u269 u270 u271 u272 u273 u274 u275 u276 u277 u278 u279 u280 hk hg kd hi hin hend
  have h2 : (Tryd.f3.body).bind firstLoop = some _ := rfl
  obtain rfl := Option.some.inj (h2.symm.trans hc)
  clear hc h2
  have HEND := hid hend
  have HK := hid hk
  have HG := hid hg
  clear hend hk hg
  obtain ⟨p0, p1, p2, p3, p4, p5, p6⟩ := hin
  simp only at p0 p1 p2 p3 p4 p5 p6
  have hm : Tryd.prog.follows .mixedOrders = true := by kernel_rfl
  have hkb := cell_lt kd
  simp only at hkb
  have HSE : Hid (∀ W, Gr w0 W → Calls Tryd.prog 11 #[.agg #[.int .u8 2, .int .u8 0, .int .i64 d, .int .i64 a, .int .i64 b, .int .i64 n, .int .i64 s]] W fun e w' => e = .returned (.tuple #[.int .i64 d, .bool true]) ∧ Gr W w') := fun W g => by
    have := sets_any (2) (by omega) 0 d a b n s W (HK.out.gr g)
    exact this
  have HTU : Hid (∀ W, Gr w0 W → W.cell? ⟨kb, 0, none⟩ = some (.int .i64 kv) → Calls Tryd.prog 12 #[.agg #[.int .u8 2, .int .u8 0, .int .i64 d, .int .i64 a, .int .i64 b, .int .i64 n, .int .i64 s], .func (.func 13) #[] #[.pointer (some ⟨kb, 0, none⟩)]] W fun e w' => e = .returned (.agg #[.int .u8 2, .int .u8 0, .int .i64 d, .int .i64 (xr a kv), .int .i64 (xr b kv), .int .i64 n, .int .i64 s]) ∧ Gr W w') := fun W g hc => by
    have := turned_any (2) (by omega) 0 d a b n s kv kb W (HK.out.gr g) hc
    exact this
  have HON : Hid (∀ W, Gr w0 W → Calls Tryd.prog 14 #[.agg #[.int .u8 2, .int .u8 0, .int .i64 d, .int .i64 a, .int .i64 b, .int .i64 n, .int .i64 s]] W fun e w' => e = .returned (.agg #[.int .u8 2, .int .u8 0, .int .i64 d, .int .i64 a, .int .i64 b, .int .i64 0, .int .i64 0]) ∧ Gr W w') := fun W g => by
    have := only_any (2) (by omega) 0 d a b n s W (HK.out.gr g)
    exact this
  have HRZ : Hid (∀ W, Gr w0 W → Calls Tryd.prog 16 #[.agg #[.int .u8 2, .int .u8 0, .int .i64 d, .int .i64 a, .int .i64 b, .int .i64 n, .int .i64 s]] W fun e w' => ∃ v, e = .returned v ∧ Sl w' 3 1 v 2 (ivals [a, b]) ∧ Gr W w') := fun W g => by
    have := reads_any (2) (by omega) (0) (d) (a) (b) (n) (s) W (HK.out.gr g)
    exact this.mono fun e w' ⟨v, h1, h2, h3, _⟩ => ⟨v, h1, h2, h3⟩
  have HRT : Hid (∀ W, Gr w0 W → Calls Tryd.prog 16 #[.agg #[.int .u8 2, .int .u8 0, .int .i64 d, .int .i64 (xr a kv), .int .i64 (xr b kv), .int .i64 n, .int .i64 s]] W fun e w' => ∃ v, e = .returned v ∧ Sl w' 3 1 v 2 (ivals [xr a kv, xr b kv]) ∧ Gr W w') := fun W g => by
    have := reads_any (2) (by omega) (0) (d) ((xr a kv)) ((xr b kv)) (n) (s) W (HK.out.gr g)
    exact this.mono fun e w' ⟨v, h1, h2, h3, _⟩ => ⟨v, h1, h2, h3⟩
  have HRO : Hid (∀ W, Gr w0 W → Calls Tryd.prog 16 #[.agg #[.int .u8 2, .int .u8 0, .int .i64 d, .int .i64 a, .int .i64 b, .int .i64 0, .int .i64 0]] W fun e w' => ∃ v, e = .returned v ∧ Sl w' 3 1 v 2 (ivals [a, b]) ∧ Gr W w') := fun W g => by
    have := reads_any (2) (by omega) (0) (d) (a) (b) (0) (0) W (HK.out.gr g)
    exact this.mono fun e w' ⟨v, h1, h2, h3, _⟩ => ⟨v, h1, h2, h3⟩
  go_wp2_with (fail)
  refine (HSE.out _ ((HG.out.alloc _).alloc _)).mono ?_
  rintro e w3 ⟨rfl, hg3⟩
  dsimp only
  have z0 := Gr.boxed (w := wr) (((Gr.refl _).alloc _).trans hg3) 0 (u := .int .u8 2) rfl
  have z1 := Gr.boxed (w := wr) (((Gr.refl _).alloc _).trans hg3) 1 (u := .int .u8 0) rfl
  have z2 := Gr.boxed (w := wr) (((Gr.refl _).alloc _).trans hg3) 2 (u := .int .i64 d) rfl
  have z3 := Gr.boxed (w := wr) (((Gr.refl _).alloc _).trans hg3) 3 (u := .int .i64 a) rfl
  have z4 := Gr.boxed (w := wr) (((Gr.refl _).alloc _).trans hg3) 4 (u := .int .i64 b) rfl
  have z5 := Gr.boxed (w := wr) (((Gr.refl _).alloc _).trans hg3) 5 (u := .int .i64 n) rfl
  have z6 := Gr.boxed (w := wr) (((Gr.refl _).alloc _).trans hg3) 6 (u := .int .i64 s) rfl
  have kd3 := (((Gr.refl wr).alloc _).alloc _).trans hg3 |>.val kd
  have SR : Hid (Sl w3 3 1 (.slice (some ⟨wr.heap.size + 1, 0, none⟩) 2 2) 2 (ivals [a, b])) := (sl_new _ _ (by simp) 3 1 2 (ivals [a, b]) rfl (by simp [maxLen])).gr hg3
  have HG3 := hid (((HG.out.alloc _).alloc _).trans hg3)
  have HG3r := hid ((((Gr.refl wr).alloc _).alloc _).trans hg3)
  clear hg3
  go_wp2_with (fail)
  refine (HTU.out _ HG3.out kd3).mono ?_
  rintro e w4 ⟨rfl, hg4⟩
  dsimp only
  replace z0 := hg4.val z0
  replace z1 := hg4.val z1
  replace z2 := hg4.val z2
  replace z3 := hg4.val z3
  replace z4 := hg4.val z4
  replace z5 := hg4.val z5
  replace z6 := hg4.val z6
  replace kd3 := hg4.val kd3
  replace SR := hid (SR.out.gr hg4)
  have HG4 := hid (HG3.out.trans hg4)
  have HG4r := hid (HG3r.out.trans hg4)
  clear hg4 HG3 HG3r
  go_wp2_with (fail)
  have GA := (Gr.refl w4).alloc (.cells #[.int .u8 2, .int .u8 0, .int .i64 d, .int .i64 (xr a kv), .int .i64 (xr b kv), .int .i64 n, .int .i64 s] 25)
  replace z0 := GA.val z0
  replace z1 := GA.val z1
  replace z2 := GA.val z2
  replace z3 := GA.val z3
  replace z4 := GA.val z4
  replace z5 := GA.val z5
  replace z6 := GA.val z6
  replace kd3 := GA.val kd3
  have t0 : (w4.alloc (.cells #[.int .u8 2, .int .u8 0, .int .i64 d, .int .i64 (xr a kv), .int .i64 (xr b kv), .int .i64 n, .int .i64 s] 25)).cell? ⟨w4.heap.size, 0, none⟩ = some (.int .u8 2) := (Gr.refl _).boxed 0 rfl
  have t1 : (w4.alloc (.cells #[.int .u8 2, .int .u8 0, .int .i64 d, .int .i64 (xr a kv), .int .i64 (xr b kv), .int .i64 n, .int .i64 s] 25)).cell? ⟨w4.heap.size, 1, none⟩ = some (.int .u8 0) := (Gr.refl _).boxed 1 rfl
  have t2 : (w4.alloc (.cells #[.int .u8 2, .int .u8 0, .int .i64 d, .int .i64 (xr a kv), .int .i64 (xr b kv), .int .i64 n, .int .i64 s] 25)).cell? ⟨w4.heap.size, 2, none⟩ = some (.int .i64 d) := (Gr.refl _).boxed 2 rfl
  have t3 : (w4.alloc (.cells #[.int .u8 2, .int .u8 0, .int .i64 d, .int .i64 (xr a kv), .int .i64 (xr b kv), .int .i64 n, .int .i64 s] 25)).cell? ⟨w4.heap.size, 3, none⟩ = some (.int .i64 (xr a kv)) := (Gr.refl _).boxed 3 rfl
  have t4 : (w4.alloc (.cells #[.int .u8 2, .int .u8 0, .int .i64 d, .int .i64 (xr a kv), .int .i64 (xr b kv), .int .i64 n, .int .i64 s] 25)).cell? ⟨w4.heap.size, 4, none⟩ = some (.int .i64 (xr b kv)) := (Gr.refl _).boxed 4 rfl
  have t5 : (w4.alloc (.cells #[.int .u8 2, .int .u8 0, .int .i64 d, .int .i64 (xr a kv), .int .i64 (xr b kv), .int .i64 n, .int .i64 s] 25)).cell? ⟨w4.heap.size, 5, none⟩ = some (.int .i64 n) := (Gr.refl _).boxed 5 rfl
  have t6 : (w4.alloc (.cells #[.int .u8 2, .int .u8 0, .int .i64 d, .int .i64 (xr a kv), .int .i64 (xr b kv), .int .i64 n, .int .i64 s] 25)).cell? ⟨w4.heap.size, 6, none⟩ = some (.int .i64 s) := (Gr.refl _).boxed 6 rfl
  replace SR := hid (SR.out.gr GA)
  replace HG4 := hid (HG4.out.trans GA)
  replace HG4r := hid (HG4r.out.trans GA)
  clear GA
  generalize w4.alloc (.cells #[.int .u8 2, .int .u8 0, .int .i64 d, .int .i64 (xr a kv), .int .i64 (xr b kv), .int .i64 n, .int .i64 s] 25) = W4 at *
  generalize w4.heap.size = bt at *
  generalize wr.heap.size + 1 = br at *
  generalize hbz : wr.heap.size = bz at *
  clear hbz
  have rc0 : W4.cell? ⟨br, 0, none⟩ = some (.int .i64 a) := by simpa using cells_ints (l := [a, b]) SR.out 0 (by simp)
  have rc1 : W4.cell? ⟨br, 1, none⟩ = some (.int .i64 b) := by simpa using cells_ints (l := [a, b]) SR.out 1 (by simp)
  have lr := cell_lt rc0
  simp only at lr
  have lz := cell_lt z0
  have lt := cell_lt t0
  have lk := cell_lt kd3
  simp only at lz lt lk
  refine wp_loop_rounds 3 ?_
  rw [rounds_succ]
  go_wp2_with (first | (at_builtin; refine wpList_append_sl _ rfl _ _ 32 rfl Tryd.underlying32 info_int rfl (by decide) (.slice none 0 0) rfl (Sl.nil _ _ _) ⟨_, 0, none⟩ 1 1 rfl [.int .i64 (xr a kv)] rfl (cells_new _ _ (by simp) [.int .i64 (xr a kv)] 3) (by simp [Value.oneCell']) (by decide) ?_; intro vq0 wq0 hq0 hQ0))
  obtain ⟨gq0, hB0⟩ := hQ0 W4 ((Gr.refl _).alloc _) (by simp [blks])
  have z0q := gq0.val z0
  have z1q := gq0.val z1
  have z2q := gq0.val z2
  have z3q := gq0.val z3
  have z4q := gq0.val z4
  have z5q := gq0.val z5
  have z6q := gq0.val z6
  have t0q := gq0.val t0
  have t1q := gq0.val t1
  have t2q := gq0.val t2
  have t3q := gq0.val t3
  have t4q := gq0.val t4
  have t5q := gq0.val t5
  have t6q := gq0.val t6
  have kd3q := gq0.val kd3
  have rc0q := gq0.val rc0
  have rc1q := gq0.val rc1
  have lzq := cell_lt z0q
  have ltq := cell_lt t0q
  have lkq := cell_lt kd3q
  have lrq := cell_lt rc0q
  simp only at lzq ltq lkq lrq
  rw [rounds_succ]
  go_wp2_with (first | (at_builtin; refine wpList_append_sl _ rfl _ _ 32 rfl Tryd.underlying32 info_int rfl (by decide) vq0 rfl (hq0.gr ((Gr.refl _).alloc _)) ⟨_, 0, none⟩ 1 1 rfl [.int .i64 (xr b kv)] rfl (cells_new _ _ (by simp) [.int .i64 (xr b kv)] 3) (by simp [Value.oneCell']) (by decide) ?_; intro vq1 wq1 hq1 hQ1))
  obtain ⟨gq1, hB1⟩ := hQ1 W4 (gq0.alloc _) hB0
  replace z0q := gq1.val z0
  replace z1q := gq1.val z1
  replace z2q := gq1.val z2
  replace z3q := gq1.val z3
  replace z4q := gq1.val z4
  replace z5q := gq1.val z5
  replace z6q := gq1.val z6
  replace t0q := gq1.val t0
  replace t1q := gq1.val t1
  replace t2q := gq1.val t2
  replace t3q := gq1.val t3
  replace t4q := gq1.val t4
  replace t5q := gq1.val t5
  replace t6q := gq1.val t6
  replace kd3q := gq1.val kd3
  replace rc0q := gq1.val rc0
  replace rc1q := gq1.val rc1
  replace lzq := cell_lt z0q
  replace ltq := cell_lt t0q
  replace lkq := cell_lt kd3q
  replace lrq := cell_lt rc0q
  simp only at lzq ltq lkq lrq
  rw [rounds_succ]
  go_wp2_with (fail)
  clear z0 z1 z2 z3 z4 z5 z6 t0 t1 t2 t3 t4 t5 t6 kd3 rc0 rc1 lz lt lk lr lzq ltq lkq lrq
  have z0 := z0q
  clear z0q
  have z1 := z1q
  clear z1q
  have z2 := z2q
  clear z2q
  have z3 := z3q
  clear z3q
  have z4 := z4q
  clear z4q
  have z5 := z5q
  clear z5q
  have z6 := z6q
  clear z6q
  have t0 := t0q
  clear t0q
  have t1 := t1q
  clear t1q
  have t2 := t2q
  clear t2q
  have t3 := t3q
  clear t3q
  have t4 := t4q
  clear t4q
  have t5 := t5q
  clear t5q
  have t6 := t6q
  clear t6q
  have kd3 := kd3q
  clear kd3q
  have rc0 := rc0q
  clear rc0q
  have rc1 := rc1q
  clear rc1q
  have HG5 := hid (HG4.out.trans gq1)
  have HG5r := hid (HG4r.out.trans gq1)
  replace SR := hid (SR.out.gr gq1)
  have ST : Hid (Sl wq1 3 1 vq1 2 (ivals [xr a kv, xr b kv])) := hq1
  clear hq0 hQ0 gq0 hB0 hq1 hQ1 gq1 hB1 HG4 HG4r
  refine (HON.out _ HG5.out).mono ?_
  rintro e w6 ⟨rfl, hg6⟩
  dsimp only
  replace z0 := hg6.val z0
  replace z1 := hg6.val z1
  replace z2 := hg6.val z2
  replace z3 := hg6.val z3
  replace z4 := hg6.val z4
  replace z5 := hg6.val z5
  replace z6 := hg6.val z6
  replace t0 := hg6.val t0
  replace t1 := hg6.val t1
  replace t2 := hg6.val t2
  replace t3 := hg6.val t3
  replace t4 := hg6.val t4
  replace t5 := hg6.val t5
  replace t6 := hg6.val t6
  replace kd3 := hg6.val kd3
  replace SR := hid (SR.out.gr hg6)
  replace ST := hid (ST.out.gr hg6)
  replace HG5 := hid (HG5.out.trans hg6)
  replace HG5r := hid (HG5r.out.trans hg6)
  clear hg6
  have lz := cell_lt z0
  have lt := cell_lt t0
  simp only at lz lt
  go_wp2_with (fail)
  refine (HRZ.out _ (HG5.out.alloc _)).mono ?_
  rintro e w7 ⟨v7, rfl, hs7, hg7⟩
  dsimp only
  have GA := ((Gr.refl w6).alloc (.cells #[.int .u8 2, .int .u8 0, .int .i64 d, .int .i64 a, .int .i64 b, .int .i64 0, .int .i64 0] 25)).trans hg7
  replace z0 := GA.val z0
  replace z1 := GA.val z1
  replace z2 := GA.val z2
  replace z3 := GA.val z3
  replace z4 := GA.val z4
  replace z5 := GA.val z5
  replace z6 := GA.val z6
  replace t0 := GA.val t0
  replace t1 := GA.val t1
  replace t2 := GA.val t2
  replace t3 := GA.val t3
  replace t4 := GA.val t4
  replace t5 := GA.val t5
  replace t6 := GA.val t6
  replace kd3 := GA.val kd3
  replace SR := hid (SR.out.gr GA)
  replace ST := hid (ST.out.gr GA)
  replace HG5 := hid (HG5.out.trans GA)
  replace HG5r := hid (HG5r.out.trans GA)
  have o0 := hg7.boxed 0 (u := .int .u8 2) rfl
  have o1 := hg7.boxed 1 (u := .int .u8 0) rfl
  have o2 := hg7.boxed 2 (u := .int .i64 d) rfl
  have o3 := hg7.boxed 3 (u := .int .i64 a) rfl
  have o4 := hg7.boxed 4 (u := .int .i64 b) rfl
  have o5 := hg7.boxed 5 (u := .int .i64 0) rfl
  have o6 := hg7.boxed 6 (u := .int .i64 0) rfl
  generalize w6.heap.size = bo at *
  clear GA hg7 lz lt
  go_wp2_with (fail)
  have HE := equal_ints v7 (.slice (some ⟨br, 0, none⟩) 2 2) [a, b] [a, b] _ hs7 SR.out (by simp) (by simp)
  rw [show sameB [a, b] [a, b] = true by simp [sameB]] at HE
  refine HE.mono ?_
  clear HE
  rintro e w8 ⟨rfl, hg8⟩
  dsimp only
  replace z0 := hg8.val z0
  replace z1 := hg8.val z1
  replace z2 := hg8.val z2
  replace z3 := hg8.val z3
  replace z4 := hg8.val z4
  replace z5 := hg8.val z5
  replace z6 := hg8.val z6
  replace t0 := hg8.val t0
  replace t1 := hg8.val t1
  replace t2 := hg8.val t2
  replace t3 := hg8.val t3
  replace t4 := hg8.val t4
  replace t5 := hg8.val t5
  replace t6 := hg8.val t6
  replace kd3 := hg8.val kd3
  replace o0 := hg8.val o0
  replace o1 := hg8.val o1
  replace o2 := hg8.val o2
  replace o3 := hg8.val o3
  replace o4 := hg8.val o4
  replace o5 := hg8.val o5
  replace o6 := hg8.val o6
  replace SR := hid (SR.out.gr hg8)
  replace ST := hid (ST.out.gr hg8)
  replace HG5 := hid (HG5.out.trans hg8)
  replace HG5r := hid (HG5r.out.trans hg8)
  clear hg8 hs7
  go_wp2_with (fail)
  refine (HRT.out _ HG5.out).mono ?_
  rintro e w9 ⟨v9, rfl, hs9, hg9⟩
  dsimp only
  replace z0 := hg9.val z0
  replace z1 := hg9.val z1
  replace z2 := hg9.val z2
  replace z3 := hg9.val z3
  replace z4 := hg9.val z4
  replace z5 := hg9.val z5
  replace z6 := hg9.val z6
  replace t0 := hg9.val t0
  replace t1 := hg9.val t1
  replace t2 := hg9.val t2
  replace t3 := hg9.val t3
  replace t4 := hg9.val t4
  replace t5 := hg9.val t5
  replace t6 := hg9.val t6
  replace kd3 := hg9.val kd3
  replace o0 := hg9.val o0
  replace o1 := hg9.val o1
  replace o2 := hg9.val o2
  replace o3 := hg9.val o3
  replace o4 := hg9.val o4
  replace o5 := hg9.val o5
  replace o6 := hg9.val o6
  replace SR := hid (SR.out.gr hg9)
  replace ST := hid (ST.out.gr hg9)
  replace HG5 := hid (HG5.out.trans hg9)
  replace HG5r := hid (HG5r.out.trans hg9)
  clear hg9
  go_wp2_with (fail)
  have HE := equal_ints v9 vq1 [xr a kv, xr b kv] [xr a kv, xr b kv] _ hs9 ST.out (by simp) (by simp)
  rw [show sameB [xr a kv, xr b kv] [xr a kv, xr b kv] = true by simp [sameB]] at HE
  refine HE.mono ?_
  clear HE
  rintro e w10 ⟨rfl, hg10⟩
  dsimp only
  replace z0 := hg10.val z0
  replace z1 := hg10.val z1
  replace z2 := hg10.val z2
  replace z3 := hg10.val z3
  replace z4 := hg10.val z4
  replace z5 := hg10.val z5
  replace z6 := hg10.val z6
  replace t0 := hg10.val t0
  replace t1 := hg10.val t1
  replace t2 := hg10.val t2
  replace t3 := hg10.val t3
  replace t4 := hg10.val t4
  replace t5 := hg10.val t5
  replace t6 := hg10.val t6
  replace kd3 := hg10.val kd3
  replace o0 := hg10.val o0
  replace o1 := hg10.val o1
  replace o2 := hg10.val o2
  replace o3 := hg10.val o3
  replace o4 := hg10.val o4
  replace o5 := hg10.val o5
  replace o6 := hg10.val o6
  replace SR := hid (SR.out.gr hg10)
  replace ST := hid (ST.out.gr hg10)
  replace HG5 := hid (HG5.out.trans hg10)
  replace HG5r := hid (HG5r.out.trans hg10)
  clear hg10 hs9
  go_wp2_with (fail)
  have HPU : Hid (∀ W, Calls Tryd.prog 17 #[.agg #[.int .u8 2, .int .u8 0, .int .i64 d, .int .i64 a, .int .i64 b, .int .i64 n, .int .i64 s]] W fun e w' => e = .returned (.bool true) ∧ Gr W w') := fun W => by
    have := pure_any (2) 0 d a b n s W
    rwa [show pureB (2) 0 = true by simp [pureB, trapsB]] at this
  have HOO : Hid (∀ W, Gr w0 W → Calls Tryd.prog 14 #[.agg #[.int .u8 2, .int .u8 0, .int .i64 d, .int .i64 a, .int .i64 b, .int .i64 0, .int .i64 0]] W fun e w' => e = .returned (.agg #[.int .u8 2, .int .u8 0, .int .i64 d, .int .i64 a, .int .i64 b, .int .i64 0, .int .i64 0]) ∧ Gr W w') := fun W g => by
    have := only_any (2) (by omega) (0) (d) (a) (b) (0) (0) W (HK.out.gr g)
    exact this
  refine wp_region_noPanic ?_
  refine wp_region_held_drew (S := fun w' => w'.cell? ⟨bz, 0, none⟩ = some (.int .u8 2) ∧ w'.cell? ⟨bz, 1, none⟩ = some (.int .u8 0) ∧ w'.cell? ⟨bz, 2, none⟩ = some (.int .i64 d) ∧ w'.cell? ⟨bz, 3, none⟩ = some (.int .i64 a) ∧ w'.cell? ⟨bz, 4, none⟩ = some (.int .i64 b) ∧ w'.cell? ⟨bz, 5, none⟩ = some (.int .i64 n) ∧ w'.cell? ⟨bz, 6, none⟩ = some (.int .i64 s) ∧ w'.cell? ⟨bo, 0, none⟩ = some (.int .u8 2) ∧ w'.cell? ⟨bo, 1, none⟩ = some (.int .u8 0) ∧ w'.cell? ⟨bo, 2, none⟩ = some (.int .i64 d) ∧ w'.cell? ⟨bo, 3, none⟩ = some (.int .i64 a) ∧ w'.cell? ⟨bo, 4, none⟩ = some (.int .i64 b) ∧ w'.cell? ⟨bo, 5, none⟩ = some (.int .i64 0) ∧ w'.cell? ⟨bo, 6, none⟩ = some (.int .i64 0) ∧ Gr w10 w') hm ⟨z0, z1, z2, z3, z4, z5, z6, o0, o1, o2, o3, o4, o5, o6, (Gr.refl _).drew⟩ (fun hHeld => ?_)
  refine wpAnyH_take (i := 0) (oi := { dst := some 172, op := Go.Op.load 25 (Go.Operand.tmp 10), type := 25, pos := "law.go:110", after := #[], guard := none }) (v := ?_) rfl (by kernel_rfl) (by kernel_rfl) (by kernel_rfl) (fun _ _ _ h => h) (Or.inl ⟨by rfl, ?_⟩) (by assumption) ?_
  rotate_left
  (intro w hSw; (try dsimp only at hSw); go_simp; try (with_reducible rfl))
  simp only [Act.put, List.setIfInBounds_toArray, List.set_cons_zero, List.set_cons_succ]
  refine wpAnyH_take (i := 2) (oi := { dst := some 174, op := Go.Op.move (Go.Operand.tmp 20), type := 4, pos := "law.go:110", after := #[], guard := none }) (v := ?_) rfl (by kernel_rfl) (by kernel_rfl) (by kernel_rfl) (fun _ _ _ h => h) (Or.inl ⟨by rfl, ?_⟩) (by assumption) ?_
  rotate_left
  (intro w hSw; (try dsimp only at hSw); go_simp; try (with_reducible rfl))
  simp only [Act.put, List.setIfInBounds_toArray, List.set_cons_zero, List.set_cons_succ]
  refine wpAnyH_ready (rs := [1]) (by kernel_rfl) (by simp) (AllReadyH.cons (o := { dst := some 173, op := Go.Op.call { callee := Go.Callee.value (Go.Operand.func 17), args := #[Go.Operand.tmp 172], argTypes := #[25] }, type := 4, pos := "law.go:110", after := #[{ on := 0, ground := Go.Ground.data }], guard := none }) rfl (fun K hK => ?_) AllReadyH.nil)
  go_simp
  first | (go_at_call 17; refine (HPU.out _).mono ?_; rintro e w11 ⟨rfl, hgx⟩) | (go_at_call 14; refine (HOO.out _ (HG5.out.trans hHeld.2.2.2.2.2.2.2.2.2.2.2.2.2.2)).mono ?_; rintro e w12 ⟨rfl, hgx⟩) | (go_at_call 16; refine (HRO.out _ (HG5.out.trans hHeld.2.2.2.2.2.2.2.2.2.2.2.2.2.2)).mono ?_; rintro e w13 ⟨v13, rfl, hs13, hgx⟩) | (go_at_call 15; have HE := equal_ints v13 (.slice (some ⟨br, 0, none⟩) 2 2) [a, b] [a, b] _ hs13 (SR.out.gr hHeld.2.2.2.2.2.2.2.2.2.2.2.2.2.2) (by simp) (by simp); rw [show sameB [a, b] [a, b] = true by simp [sameB]] at HE; refine HE.mono ?_; clear HE; rintro e w14 ⟨rfl, hgx⟩)
  go_simp
  refine hK.out _ _ (keep14 hgx (by assumption)) (fun hH2 => ?_)
  clear hHeld hK K
  have hHeld := hH2
  clear hH2
  try simp only [Act.put, List.setIfInBounds_toArray, List.set_cons_zero, List.set_cons_succ]
  refine wpAnyH_take (i := 3) (oi := { dst := some 175, op := Go.Op.binOp Go.BinOp.neq 4 (Go.Operand.tmp 173) (Go.Operand.tmp 174) 4, type := 4, pos := "law.go:110", after := #[{ on := 1, ground := Go.Ground.data }, { on := 2, ground := Go.Ground.data }], guard := none }) (v := ?_) rfl (by kernel_rfl) (by kernel_rfl) (by kernel_rfl) (fun _ _ _ h => h) (Or.inl ⟨by rfl, ?_⟩) (by assumption) ?_
  rotate_left
  (intro w hSw; (try dsimp only at hSw); go_simp; try (with_reducible rfl))
  simp only [Act.put, List.setIfInBounds_toArray, List.set_cons_zero, List.set_cons_succ]
  refine wpAnyH_take (i := 4) (oi := { dst := some 176, op := Go.Op.move (Go.Operand.tmp 175), type := 4, pos := "law.go:110", after := #[{ on := 3, ground := Go.Ground.data }, { on := 1, ground := Go.Ground.chain }], guard := none }) (v := ?_) rfl (by kernel_rfl) (by kernel_rfl) (by kernel_rfl) (fun _ _ _ h => h) (Or.inl ⟨by rfl, ?_⟩) (by assumption) ?_
  rotate_left
  (intro w hSw; (try dsimp only at hSw); go_simp; try (with_reducible rfl))
  simp only [Act.put, List.setIfInBounds_toArray, List.set_cons_zero, List.set_cons_succ]
  refine wpAnyH_take (i := 5) (oi := { dst := some 177, op := Go.Op.load 25 (Go.Operand.tmp 19), type := 25, pos := "law.go:110", after := #[{ on := 4, ground := Go.Ground.guard }], guard := some (4, false) }) (v := ?_) rfl (by kernel_rfl) (by kernel_rfl) (by kernel_rfl) (fun _ _ _ h => h) (Or.inl ⟨by rfl, ?_⟩) (by assumption) ?_
  rotate_left
  (intro w hSw; (try dsimp only at hSw); go_simp; try (with_reducible rfl))
  simp only [Act.put, List.setIfInBounds_toArray, List.set_cons_zero, List.set_cons_succ]
  refine wpAnyH_take (i := 6) (oi := { dst := some 178, op := Go.Op.load 25 (Go.Operand.tmp 19), type := 25, pos := "law.go:110", after := #[{ on := 4, ground := Go.Ground.guard }], guard := some (4, false) }) (v := ?_) rfl (by kernel_rfl) (by kernel_rfl) (by kernel_rfl) (fun _ _ _ h => h) (Or.inl ⟨by rfl, ?_⟩) (by assumption) ?_
  rotate_left
  (intro w hSw; (try dsimp only at hSw); go_simp; try (with_reducible rfl))
  simp only [Act.put, List.setIfInBounds_toArray, List.set_cons_zero, List.set_cons_succ]
  refine wpAnyH_ready (rs := [7]) (by kernel_rfl) (by simp) (AllReadyH.cons (o := { dst := some 179, op := Go.Op.call { callee := Go.Callee.value (Go.Operand.func 14), args := #[Go.Operand.tmp 178], argTypes := #[25] }, type := 25, pos := "law.go:110", after := #[{ on := 6, ground := Go.Ground.data }, { on := 4, ground := Go.Ground.chain }, { on := 4, ground := Go.Ground.guard }], guard := some (4, false) }) rfl (fun K hK => ?_) AllReadyH.nil)
  go_simp
  first | (go_at_call 17; refine (HPU.out _).mono ?_; rintro e w11 ⟨rfl, hgx⟩) | (go_at_call 14; refine (HOO.out _ (HG5.out.trans hHeld.2.2.2.2.2.2.2.2.2.2.2.2.2.2)).mono ?_; rintro e w12 ⟨rfl, hgx⟩) | (go_at_call 16; refine (HRO.out _ (HG5.out.trans hHeld.2.2.2.2.2.2.2.2.2.2.2.2.2.2)).mono ?_; rintro e w13 ⟨v13, rfl, hs13, hgx⟩) | (go_at_call 15; have HE := equal_ints v13 (.slice (some ⟨br, 0, none⟩) 2 2) [a, b] [a, b] _ hs13 (SR.out.gr hHeld.2.2.2.2.2.2.2.2.2.2.2.2.2.2) (by simp) (by simp); rw [show sameB [a, b] [a, b] = true by simp [sameB]] at HE; refine HE.mono ?_; clear HE; rintro e w14 ⟨rfl, hgx⟩)
  go_simp
  refine hK.out _ _ (keep14 hgx (by assumption)) (fun hH2 => ?_)
  clear hHeld hK K
  have hHeld := hH2
  clear hH2
  try simp only [Act.put, List.setIfInBounds_toArray, List.set_cons_zero, List.set_cons_succ]
  refine wpAnyH_take (i := 8) (oi := { dst := some 180, op := Go.Op.binOp Go.BinOp.neq 25 (Go.Operand.tmp 177) (Go.Operand.tmp 179) 25, type := 4, pos := "law.go:110", after := #[{ on := 5, ground := Go.Ground.data }, { on := 7, ground := Go.Ground.data }, { on := 4, ground := Go.Ground.guard }], guard := some (4, false) }) (v := ?_) rfl (by kernel_rfl) (by kernel_rfl) (by kernel_rfl) (fun _ _ _ h => h) (Or.inl ⟨by rfl, ?_⟩) (by assumption) ?_
  rotate_left
  (intro w hSw; (try dsimp only at hSw); go_simp; try (with_reducible rfl))
  simp only [Act.put, List.setIfInBounds_toArray, List.set_cons_zero, List.set_cons_succ]
  refine wpAnyH_take (i := 9) (oi := { dst := some 181, op := Go.Op.pick (Go.Operand.tmp 176) (Go.Operand.const (Go.Value.bool true)) (Go.Operand.tmp 180), type := 4, pos := "law.go:110", after := #[{ on := 4, ground := Go.Ground.data }, { on := 8, ground := Go.Ground.data }], guard := none }) (v := ?_) rfl (by kernel_rfl) (by kernel_rfl) (by kernel_rfl) (fun _ _ _ h => h) (Or.inl ⟨by rfl, ?_⟩) (by assumption) ?_
  rotate_left
  (intro w hSw; (try dsimp only at hSw); go_simp; try (with_reducible rfl))
  simp only [Act.put, List.setIfInBounds_toArray, List.set_cons_zero, List.set_cons_succ]
  refine wpAnyH_take (i := 10) (oi := { dst := some 182, op := Go.Op.move (Go.Operand.tmp 181), type := 4, pos := "law.go:110", after := #[{ on := 9, ground := Go.Ground.data }, { on := 7, ground := Go.Ground.chain }], guard := none }) (v := ?_) rfl (by kernel_rfl) (by kernel_rfl) (by kernel_rfl) (fun _ _ _ h => h) (Or.inl ⟨by rfl, ?_⟩) (by assumption) ?_
  rotate_left
  (intro w hSw; (try dsimp only at hSw); go_simp; try (with_reducible rfl))
  simp only [Act.put, List.setIfInBounds_toArray, List.set_cons_zero, List.set_cons_succ]
  refine wpAnyH_take (i := 11) (oi := { dst := some 183, op := Go.Op.load 25 (Go.Operand.tmp 19), type := 25, pos := "law.go:110", after := #[{ on := 10, ground := Go.Ground.guard }], guard := some (10, false) }) (v := ?_) rfl (by kernel_rfl) (by kernel_rfl) (by kernel_rfl) (fun _ _ _ h => h) (Or.inl ⟨by rfl, ?_⟩) (by assumption) ?_
  rotate_left
  (intro w hSw; (try dsimp only at hSw); go_simp; try (with_reducible rfl))
  simp only [Act.put, List.setIfInBounds_toArray, List.set_cons_zero, List.set_cons_succ]
  refine wpAnyH_take (i := 13) (oi := { dst := some 185, op := Go.Op.move (Go.Operand.tmp 12), type := 32, pos := "law.go:110", after := #[{ on := 10, ground := Go.Ground.guard }], guard := some (10, false) }) (v := ?_) rfl (by kernel_rfl) (by kernel_rfl) (by kernel_rfl) (fun _ _ _ h => h) (Or.inl ⟨by rfl, ?_⟩) (by assumption) ?_
  rotate_left
  (intro w hSw; (try dsimp only at hSw); go_simp; try (with_reducible rfl))
  simp only [Act.put, List.setIfInBounds_toArray, List.set_cons_zero, List.set_cons_succ]
  refine wpAnyH_ready (rs := [12]) (by kernel_rfl) (by simp) (AllReadyH.cons (o := { dst := some 184, op := Go.Op.call { callee := Go.Callee.value (Go.Operand.func 16), args := #[Go.Operand.tmp 183], argTypes := #[25] }, type := 32, pos := "law.go:110", after := #[{ on := 11, ground := Go.Ground.data }, { on := 10, ground := Go.Ground.chain }, { on := 10, ground := Go.Ground.guard }], guard := some (10, false) }) rfl (fun K hK => ?_) AllReadyH.nil)
  go_simp
  first | (go_at_call 17; refine (HPU.out _).mono ?_; rintro e w11 ⟨rfl, hgx⟩) | (go_at_call 14; refine (HOO.out _ (HG5.out.trans hHeld.2.2.2.2.2.2.2.2.2.2.2.2.2.2)).mono ?_; rintro e w12 ⟨rfl, hgx⟩) | (go_at_call 16; refine (HRO.out _ (HG5.out.trans hHeld.2.2.2.2.2.2.2.2.2.2.2.2.2.2)).mono ?_; rintro e w13 ⟨v13, rfl, hs13, hgx⟩) | (go_at_call 15; have HE := equal_ints v13 (.slice (some ⟨br, 0, none⟩) 2 2) [a, b] [a, b] _ hs13 (SR.out.gr hHeld.2.2.2.2.2.2.2.2.2.2.2.2.2.2) (by simp) (by simp); rw [show sameB [a, b] [a, b] = true by simp [sameB]] at HE; refine HE.mono ?_; clear HE; rintro e w14 ⟨rfl, hgx⟩)
  go_simp
  refine hK.out _ _ (keep14 hgx (by assumption)) (fun hH2 => ?_)
  clear hHeld hK K
  have hHeld := hH2
  clear hH2
  try simp only [Act.put, List.setIfInBounds_toArray, List.set_cons_zero, List.set_cons_succ]
  refine wpAnyH_ready (rs := [14]) (by kernel_rfl) (by simp) (AllReadyH.cons (o := { dst := some 186, op := Go.Op.call { callee := Go.Callee.value (Go.Operand.func 15), args := #[Go.Operand.tmp 184, Go.Operand.tmp 185], argTypes := #[32, 32] }, type := 4, pos := "law.go:110", after := #[{ on := 12, ground := Go.Ground.data }, { on := 13, ground := Go.Ground.data }, { on := 12, ground := Go.Ground.chain }, { on := 10, ground := Go.Ground.guard }], guard := some (10, false) }) rfl (fun K hK => ?_) AllReadyH.nil)
  go_simp
  first | (go_at_call 17; refine (HPU.out _).mono ?_; rintro e w11 ⟨rfl, hgx⟩) | (go_at_call 14; refine (HOO.out _ (HG5.out.trans hHeld.2.2.2.2.2.2.2.2.2.2.2.2.2.2)).mono ?_; rintro e w12 ⟨rfl, hgx⟩) | (go_at_call 16; refine (HRO.out _ (HG5.out.trans hHeld.2.2.2.2.2.2.2.2.2.2.2.2.2.2)).mono ?_; rintro e w13 ⟨v13, rfl, hs13, hgx⟩) | (go_at_call 15; have HE := equal_ints v13 (.slice (some ⟨br, 0, none⟩) 2 2) [a, b] [a, b] _ hs13 (SR.out.gr hHeld.2.2.2.2.2.2.2.2.2.2.2.2.2.2) (by simp) (by simp); rw [show sameB [a, b] [a, b] = true by simp [sameB]] at HE; refine HE.mono ?_; clear HE; rintro e w14 ⟨rfl, hgx⟩)
  go_simp
  refine hK.out _ _ (keep14 hgx (by assumption)) (fun hH2 => ?_)
  clear hHeld hK K
  have hHeld := hH2
  clear hH2
  try simp only [Act.put, List.setIfInBounds_toArray, List.set_cons_zero, List.set_cons_succ]
  refine wpAnyH_take (i := 15) (oi := { dst := some 187, op := Go.Op.unOp Go.UnOp.not 4 (Go.Operand.tmp 186), type := 4, pos := "law.go:110", after := #[{ on := 14, ground := Go.Ground.data }, { on := 10, ground := Go.Ground.guard }], guard := some (10, false) }) (v := ?_) rfl (by kernel_rfl) (by kernel_rfl) (by kernel_rfl) (fun _ _ _ h => h) (Or.inl ⟨by rfl, ?_⟩) (by assumption) ?_
  rotate_left
  (intro w hSw; (try dsimp only at hSw); go_simp; try (with_reducible rfl))
  simp only [Act.put, List.setIfInBounds_toArray, List.set_cons_zero, List.set_cons_succ]
  refine wpAnyH_take (i := 16) (oi := { dst := some 188, op := Go.Op.pick (Go.Operand.tmp 182) (Go.Operand.const (Go.Value.bool true)) (Go.Operand.tmp 187), type := 4, pos := "law.go:110", after := #[{ on := 10, ground := Go.Ground.data }, { on := 15, ground := Go.Ground.data }], guard := none }) (v := ?_) rfl (by kernel_rfl) (by kernel_rfl) (by kernel_rfl) (fun _ _ _ h => h) (Or.inl ⟨by rfl, ?_⟩) (by assumption) ?_
  rotate_left
  (intro w hSw; (try dsimp only at hSw); go_simp; try (with_reducible rfl))
  simp only [Act.put, List.setIfInBounds_toArray, List.set_cons_zero, List.set_cons_succ]
  refine wpAnyH_take (i := 17) (oi := { dst := some 189, op := Go.Op.move (Go.Operand.tmp 188), type := 4, pos := "law.go:110", after := #[{ on := 16, ground := Go.Ground.data }, { on := 14, ground := Go.Ground.chain }], guard := none }) (v := ?_) rfl (by kernel_rfl) (by kernel_rfl) (by kernel_rfl) (fun _ _ _ h => h) (Or.inl ⟨by rfl, ?_⟩) (by assumption) ?_
  rotate_left
  (intro w hSw; (try dsimp only at hSw); go_simp; try (with_reducible rfl))
  simp only [Act.put, List.setIfInBounds_toArray, List.set_cons_zero, List.set_cons_succ]
  refine wpAnyH_take (i := 18) (oi := { dst := some 190, op := Go.Op.fieldAddr 25 (Go.Operand.tmp 19) 0, type := 0, pos := "law.go:110", after := #[{ on := 17, ground := Go.Ground.guard }], guard := some (17, false) }) (v := ?_) rfl (by kernel_rfl) (by kernel_rfl) (by kernel_rfl) (fun _ _ _ h => h) (Or.inl ⟨by rfl, ?_⟩) (by assumption) ?_
  rotate_left
  (intro w hSw; (try dsimp only at hSw); go_simp; try (with_reducible rfl))
  simp only [Act.put, List.setIfInBounds_toArray, List.set_cons_zero, List.set_cons_succ]
  refine wpAnyH_take (i := 19) (oi := { dst := some 191, op := Go.Op.load 22 (Go.Operand.tmp 190), type := 22, pos := "law.go:110", after := #[{ on := 18, ground := Go.Ground.data }, { on := 17, ground := Go.Ground.guard }], guard := some (17, false) }) (v := ?_) rfl (by kernel_rfl) (by kernel_rfl) (by kernel_rfl) (fun _ _ _ h => h) (Or.inl ⟨by rfl, ?_⟩) (by assumption) ?_
  rotate_left
  (intro w hSw; (try dsimp only at hSw); go_simp; try (with_reducible rfl))
  simp only [Act.put, List.setIfInBounds_toArray, List.set_cons_zero, List.set_cons_succ]
  refine wpAnyH_take (i := 20) (oi := { dst := some 192, op := Go.Op.fieldAddr 25 (Go.Operand.tmp 10) 0, type := 0, pos := "law.go:110", after := #[{ on := 17, ground := Go.Ground.guard }], guard := some (17, false) }) (v := ?_) rfl (by kernel_rfl) (by kernel_rfl) (by kernel_rfl) (fun _ _ _ h => h) (Or.inl ⟨by rfl, ?_⟩) (by assumption) ?_
  rotate_left
  (intro w hSw; (try dsimp only at hSw); go_simp; try (with_reducible rfl))
  simp only [Act.put, List.setIfInBounds_toArray, List.set_cons_zero, List.set_cons_succ]
  refine wpAnyH_take (i := 21) (oi := { dst := some 193, op := Go.Op.load 22 (Go.Operand.tmp 192), type := 22, pos := "law.go:110", after := #[{ on := 20, ground := Go.Ground.data }, { on := 17, ground := Go.Ground.guard }], guard := some (17, false) }) (v := ?_) rfl (by kernel_rfl) (by kernel_rfl) (by kernel_rfl) (fun _ _ _ h => h) (Or.inl ⟨by rfl, ?_⟩) (by assumption) ?_
  rotate_left
  (intro w hSw; (try dsimp only at hSw); go_simp; try (with_reducible rfl))
  simp only [Act.put, List.setIfInBounds_toArray, List.set_cons_zero, List.set_cons_succ]
  refine wpAnyH_take (i := 22) (oi := { dst := some 194, op := Go.Op.binOp Go.BinOp.neq 22 (Go.Operand.tmp 191) (Go.Operand.tmp 193) 22, type := 4, pos := "law.go:110", after := #[{ on := 19, ground := Go.Ground.data }, { on := 21, ground := Go.Ground.data }, { on := 17, ground := Go.Ground.guard }], guard := some (17, false) }) (v := ?_) rfl (by kernel_rfl) (by kernel_rfl) (by kernel_rfl) (fun _ _ _ h => h) (Or.inl ⟨by rfl, ?_⟩) (by assumption) ?_
  rotate_left
  (intro w hSw; (try dsimp only at hSw); go_simp; try (with_reducible rfl))
  simp only [Act.put, List.setIfInBounds_toArray, List.set_cons_zero, List.set_cons_succ]
  refine wpAnyH_take (i := 23) (oi := { dst := some 195, op := Go.Op.pick (Go.Operand.tmp 189) (Go.Operand.const (Go.Value.bool true)) (Go.Operand.tmp 194), type := 4, pos := "law.go:110", after := #[{ on := 17, ground := Go.Ground.data }, { on := 22, ground := Go.Ground.data }], guard := none }) (v := ?_) rfl (by kernel_rfl) (by kernel_rfl) (by kernel_rfl) (fun _ _ _ h => h) (Or.inl ⟨by rfl, ?_⟩) (by assumption) ?_
  rotate_left
  (intro w hSw; (try dsimp only at hSw); go_simp; try (with_reducible rfl))
  simp only [Act.put, List.setIfInBounds_toArray, List.set_cons_zero, List.set_cons_succ]
  refine wpAnyH_take (i := 24) (oi := { dst := some 196, op := Go.Op.move (Go.Operand.tmp 195), type := 4, pos := "law.go:110", after := #[{ on := 23, ground := Go.Ground.data }, { on := 17, ground := Go.Ground.chain }], guard := none }) (v := ?_) rfl (by kernel_rfl) (by kernel_rfl) (by kernel_rfl) (fun _ _ _ h => h) (Or.inl ⟨by rfl, ?_⟩) (by assumption) ?_
  rotate_left
  (intro w hSw; (try dsimp only at hSw); go_simp; try (with_reducible rfl))
  simp only [Act.put, List.setIfInBounds_toArray, List.set_cons_zero, List.set_cons_succ]
  refine wpAnyH_take (i := 25) (oi := { dst := some 197, op := Go.Op.fieldAddr 25 (Go.Operand.tmp 19) 5, type := 0, pos := "law.go:110", after := #[{ on := 24, ground := Go.Ground.guard }], guard := some (24, false) }) (v := ?_) rfl (by kernel_rfl) (by kernel_rfl) (by kernel_rfl) (fun _ _ _ h => h) (Or.inl ⟨by rfl, ?_⟩) (by assumption) ?_
  rotate_left
  (intro w hSw; (try dsimp only at hSw); go_simp; try (with_reducible rfl))
  simp only [Act.put, List.setIfInBounds_toArray, List.set_cons_zero, List.set_cons_succ]
  refine wpAnyH_take (i := 26) (oi := { dst := some 198, op := Go.Op.load 2 (Go.Operand.tmp 197), type := 2, pos := "law.go:110", after := #[{ on := 25, ground := Go.Ground.data }, { on := 24, ground := Go.Ground.guard }], guard := some (24, false) }) (v := ?_) rfl (by kernel_rfl) (by kernel_rfl) (by kernel_rfl) (fun _ _ _ h => h) (Or.inl ⟨by rfl, ?_⟩) (by assumption) ?_
  rotate_left
  (intro w hSw; (try dsimp only at hSw); go_simp; try (with_reducible rfl))
  simp only [Act.put, List.setIfInBounds_toArray, List.set_cons_zero, List.set_cons_succ]
  refine wpAnyH_take (i := 27) (oi := { dst := some 199, op := Go.Op.binOp Go.BinOp.neq 2 (Go.Operand.tmp 198) (Go.Operand.const (Go.Value.int Go.IntKind.i64 0)) 2, type := 4, pos := "law.go:110", after := #[{ on := 26, ground := Go.Ground.data }, { on := 24, ground := Go.Ground.guard }], guard := some (24, false) }) (v := ?_) rfl (by kernel_rfl) (by kernel_rfl) (by kernel_rfl) (fun _ _ _ h => h) (Or.inl ⟨by rfl, ?_⟩) (by assumption) ?_
  rotate_left
  (intro w hSw; (try dsimp only at hSw); go_simp; try (with_reducible rfl))
  simp only [Act.put, List.setIfInBounds_toArray, List.set_cons_zero, List.set_cons_succ]
  refine wpAnyH_take (i := 28) (oi := { dst := some 200, op := Go.Op.move (Go.Operand.tmp 199), type := 4, pos := "law.go:110", after := #[{ on := 27, ground := Go.Ground.data }, { on := 24, ground := Go.Ground.chain }, { on := 24, ground := Go.Ground.guard }], guard := some (24, false) }) (v := ?_) rfl (by kernel_rfl) (by kernel_rfl) (by kernel_rfl) (fun _ _ _ h => h) (Or.inl ⟨by rfl, ?_⟩) (by assumption) ?_
  rotate_left
  (intro w hSw; (try dsimp only at hSw); go_simp; try (with_reducible rfl))
  simp only [Act.put, List.setIfInBounds_toArray, List.set_cons_zero, List.set_cons_succ]
  refine wpAnyH_take (i := 29) (oi := { dst := some 201, op := Go.Op.fieldAddr 25 (Go.Operand.tmp 19) 0, type := 0, pos := "law.go:110", after := #[{ on := 28, ground := Go.Ground.guard }], guard := some (28, true) }) (v := undef) rfl (by kernel_rfl) (by kernel_rfl) (by kernel_rfl) (fun _ _ _ h => h) (Or.inr ⟨by rfl, rfl⟩) (by assumption) ?_
  simp only [Act.put, List.setIfInBounds_toArray, List.set_cons_zero, List.set_cons_succ]
  refine wpAnyH_take (i := 30) (oi := { dst := some 202, op := Go.Op.load 22 (Go.Operand.tmp 201), type := 22, pos := "law.go:110", after := #[{ on := 29, ground := Go.Ground.data }, { on := 28, ground := Go.Ground.guard }], guard := some (28, true) }) (v := undef) rfl (by kernel_rfl) (by kernel_rfl) (by kernel_rfl) (fun _ _ _ h => h) (Or.inr ⟨by rfl, rfl⟩) (by assumption) ?_
  simp only [Act.put, List.setIfInBounds_toArray, List.set_cons_zero, List.set_cons_succ]
  refine wpAnyH_take (i := 31) (oi := { dst := some 203, op := Go.Op.binOp Go.BinOp.neq 22 (Go.Operand.tmp 202) (Go.Operand.const (Go.Value.int Go.IntKind.u8 0)) 22, type := 4, pos := "law.go:110", after := #[{ on := 30, ground := Go.Ground.data }, { on := 28, ground := Go.Ground.guard }], guard := some (28, true) }) (v := undef) rfl (by kernel_rfl) (by kernel_rfl) (by kernel_rfl) (fun _ _ _ h => h) (Or.inr ⟨by rfl, rfl⟩) (by assumption) ?_
  simp only [Act.put, List.setIfInBounds_toArray, List.set_cons_zero, List.set_cons_succ]
  refine wpAnyH_take (i := 32) (oi := { dst := some 204, op := Go.Op.pick (Go.Operand.tmp 200) (Go.Operand.tmp 203) (Go.Operand.const (Go.Value.bool false)), type := 4, pos := "law.go:110", after := #[{ on := 28, ground := Go.Ground.data }, { on := 31, ground := Go.Ground.data }, { on := 24, ground := Go.Ground.guard }], guard := some (24, false) }) (v := ?_) rfl (by kernel_rfl) (by kernel_rfl) (by kernel_rfl) (fun _ _ _ h => h) (Or.inl ⟨by rfl, ?_⟩) (by assumption) ?_
  rotate_left
  (intro w hSw; (try dsimp only at hSw); go_simp; try (with_reducible rfl))
  simp only [Act.put, List.setIfInBounds_toArray, List.set_cons_zero, List.set_cons_succ]
  refine wpAnyH_take (i := 33) (oi := { dst := some 205, op := Go.Op.pick (Go.Operand.tmp 196) (Go.Operand.const (Go.Value.bool true)) (Go.Operand.tmp 204), type := 4, pos := "law.go:110", after := #[{ on := 24, ground := Go.Ground.data }, { on := 32, ground := Go.Ground.data }], guard := none }) (v := ?_) rfl (by kernel_rfl) (by kernel_rfl) (by kernel_rfl) (fun _ _ _ h => h) (Or.inl ⟨by rfl, ?_⟩) (by assumption) ?_
  rotate_left
  (intro w hSw; (try dsimp only at hSw); go_simp; try (with_reducible rfl))
  simp only [Act.put, List.setIfInBounds_toArray, List.set_cons_zero, List.set_cons_succ]
  refine wpAnyH_take (i := 34) (oi := { dst := some 206, op := Go.Op.move (Go.Operand.tmp 205), type := 4, pos := "law.go:110", after := #[{ on := 33, ground := Go.Ground.data }, { on := 28, ground := Go.Ground.chain }], guard := none }) (v := ?_) rfl (by kernel_rfl) (by kernel_rfl) (by kernel_rfl) (fun _ _ _ h => h) (Or.inl ⟨by rfl, ?_⟩) (by assumption) ?_
  rotate_left
  (intro w hSw; (try dsimp only at hSw); go_simp; try (with_reducible rfl))
  simp only [Act.put, List.setIfInBounds_toArray, List.set_cons_zero, List.set_cons_succ]
  refine wpAnyH_take (i := 35) (oi := { dst := some 207, op := Go.Op.fieldAddr 25 (Go.Operand.tmp 19) 6, type := 0, pos := "law.go:110", after := #[{ on := 34, ground := Go.Ground.guard }], guard := some (34, false) }) (v := ?_) rfl (by kernel_rfl) (by kernel_rfl) (by kernel_rfl) (fun _ _ _ h => h) (Or.inl ⟨by rfl, ?_⟩) (by assumption) ?_
  rotate_left
  (intro w hSw; (try dsimp only at hSw); go_simp; try (with_reducible rfl))
  simp only [Act.put, List.setIfInBounds_toArray, List.set_cons_zero, List.set_cons_succ]
  refine wpAnyH_take (i := 36) (oi := { dst := some 208, op := Go.Op.load 3 (Go.Operand.tmp 207), type := 3, pos := "law.go:110", after := #[{ on := 35, ground := Go.Ground.data }, { on := 34, ground := Go.Ground.guard }], guard := some (34, false) }) (v := ?_) rfl (by kernel_rfl) (by kernel_rfl) (by kernel_rfl) (fun _ _ _ h => h) (Or.inl ⟨by rfl, ?_⟩) (by assumption) ?_
  rotate_left
  (intro w hSw; (try dsimp only at hSw); go_simp; try (with_reducible rfl))
  simp only [Act.put, List.setIfInBounds_toArray, List.set_cons_zero, List.set_cons_succ]
  refine wpAnyH_take (i := 37) (oi := { dst := some 209, op := Go.Op.binOp Go.BinOp.neq 3 (Go.Operand.tmp 208) (Go.Operand.const (Go.Value.int Go.IntKind.i64 0)) 3, type := 4, pos := "law.go:110", after := #[{ on := 36, ground := Go.Ground.data }, { on := 34, ground := Go.Ground.guard }], guard := some (34, false) }) (v := ?_) rfl (by kernel_rfl) (by kernel_rfl) (by kernel_rfl) (fun _ _ _ h => h) (Or.inl ⟨by rfl, ?_⟩) (by assumption) ?_
  rotate_left
  (intro w hSw; (try dsimp only at hSw); go_simp; try (with_reducible rfl))
  simp only [Act.put, List.setIfInBounds_toArray, List.set_cons_zero, List.set_cons_succ]
  refine wpAnyH_take (i := 38) (oi := { dst := some 210, op := Go.Op.move (Go.Operand.tmp 209), type := 4, pos := "law.go:110", after := #[{ on := 37, ground := Go.Ground.data }, { on := 34, ground := Go.Ground.chain }, { on := 34, ground := Go.Ground.guard }], guard := some (34, false) }) (v := ?_) rfl (by kernel_rfl) (by kernel_rfl) (by kernel_rfl) (fun _ _ _ h => h) (Or.inl ⟨by rfl, ?_⟩) (by assumption) ?_
  rotate_left
  (intro w hSw; (try dsimp only at hSw); go_simp; try (with_reducible rfl))
  simp only [Act.put, List.setIfInBounds_toArray, List.set_cons_zero, List.set_cons_succ]
  refine wpAnyH_take (i := 39) (oi := { dst := some 211, op := Go.Op.fieldAddr 25 (Go.Operand.tmp 19) 0, type := 0, pos := "law.go:110", after := #[{ on := 38, ground := Go.Ground.guard }], guard := some (38, true) }) (v := undef) rfl (by kernel_rfl) (by kernel_rfl) (by kernel_rfl) (fun _ _ _ h => h) (Or.inr ⟨by rfl, rfl⟩) (by assumption) ?_
  simp only [Act.put, List.setIfInBounds_toArray, List.set_cons_zero, List.set_cons_succ]
  refine wpAnyH_take (i := 40) (oi := { dst := some 212, op := Go.Op.load 22 (Go.Operand.tmp 211), type := 22, pos := "law.go:110", after := #[{ on := 39, ground := Go.Ground.data }, { on := 38, ground := Go.Ground.guard }], guard := some (38, true) }) (v := undef) rfl (by kernel_rfl) (by kernel_rfl) (by kernel_rfl) (fun _ _ _ h => h) (Or.inr ⟨by rfl, rfl⟩) (by assumption) ?_
  simp only [Act.put, List.setIfInBounds_toArray, List.set_cons_zero, List.set_cons_succ]
  refine wpAnyH_take (i := 41) (oi := { dst := some 213, op := Go.Op.binOp Go.BinOp.neq 22 (Go.Operand.tmp 212) (Go.Operand.const (Go.Value.int Go.IntKind.u8 5)) 22, type := 4, pos := "law.go:110", after := #[{ on := 40, ground := Go.Ground.data }, { on := 38, ground := Go.Ground.guard }], guard := some (38, true) }) (v := undef) rfl (by kernel_rfl) (by kernel_rfl) (by kernel_rfl) (fun _ _ _ h => h) (Or.inr ⟨by rfl, rfl⟩) (by assumption) ?_
  simp only [Act.put, List.setIfInBounds_toArray, List.set_cons_zero, List.set_cons_succ]
  refine wpAnyH_take (i := 42) (oi := { dst := some 214, op := Go.Op.pick (Go.Operand.tmp 210) (Go.Operand.tmp 213) (Go.Operand.const (Go.Value.bool false)), type := 4, pos := "law.go:110", after := #[{ on := 38, ground := Go.Ground.data }, { on := 41, ground := Go.Ground.data }, { on := 34, ground := Go.Ground.guard }], guard := some (34, false) }) (v := ?_) rfl (by kernel_rfl) (by kernel_rfl) (by kernel_rfl) (fun _ _ _ h => h) (Or.inl ⟨by rfl, ?_⟩) (by assumption) ?_
  rotate_left
  (intro w hSw; (try dsimp only at hSw); go_simp; try (with_reducible rfl))
  simp only [Act.put, List.setIfInBounds_toArray, List.set_cons_zero, List.set_cons_succ]
  refine wpAnyH_take (i := 43) (oi := { dst := some 215, op := Go.Op.move (Go.Operand.tmp 214), type := 4, pos := "law.go:110", after := #[{ on := 42, ground := Go.Ground.data }, { on := 38, ground := Go.Ground.chain }, { on := 34, ground := Go.Ground.guard }], guard := some (34, false) }) (v := ?_) rfl (by kernel_rfl) (by kernel_rfl) (by kernel_rfl) (fun _ _ _ h => h) (Or.inl ⟨by rfl, ?_⟩) (by assumption) ?_
  rotate_left
  (intro w hSw; (try dsimp only at hSw); go_simp; try (with_reducible rfl))
  simp only [Act.put, List.setIfInBounds_toArray, List.set_cons_zero, List.set_cons_succ]
  refine wpAnyH_take (i := 44) (oi := { dst := some 216, op := Go.Op.fieldAddr 25 (Go.Operand.tmp 19) 0, type := 0, pos := "law.go:110", after := #[{ on := 43, ground := Go.Ground.guard }], guard := some (43, true) }) (v := undef) rfl (by kernel_rfl) (by kernel_rfl) (by kernel_rfl) (fun _ _ _ h => h) (Or.inr ⟨by rfl, rfl⟩) (by assumption) ?_
  simp only [Act.put, List.setIfInBounds_toArray, List.set_cons_zero, List.set_cons_succ]
  refine wpAnyH_take (i := 45) (oi := { dst := some 217, op := Go.Op.load 22 (Go.Operand.tmp 216), type := 22, pos := "law.go:110", after := #[{ on := 44, ground := Go.Ground.data }, { on := 43, ground := Go.Ground.guard }], guard := some (43, true) }) (v := undef) rfl (by kernel_rfl) (by kernel_rfl) (by kernel_rfl) (fun _ _ _ h => h) (Or.inr ⟨by rfl, rfl⟩) (by assumption) ?_
  simp only [Act.put, List.setIfInBounds_toArray, List.set_cons_zero, List.set_cons_succ]
  refine wpAnyH_take (i := 46) (oi := { dst := some 218, op := Go.Op.binOp Go.BinOp.neq 22 (Go.Operand.tmp 217) (Go.Operand.const (Go.Value.int Go.IntKind.u8 6)) 22, type := 4, pos := "law.go:110", after := #[{ on := 45, ground := Go.Ground.data }, { on := 43, ground := Go.Ground.guard }], guard := some (43, true) }) (v := undef) rfl (by kernel_rfl) (by kernel_rfl) (by kernel_rfl) (fun _ _ _ h => h) (Or.inr ⟨by rfl, rfl⟩) (by assumption) ?_
  simp only [Act.put, List.setIfInBounds_toArray, List.set_cons_zero, List.set_cons_succ]
  refine wpAnyH_take (i := 47) (oi := { dst := some 219, op := Go.Op.pick (Go.Operand.tmp 215) (Go.Operand.tmp 218) (Go.Operand.const (Go.Value.bool false)), type := 4, pos := "law.go:110", after := #[{ on := 43, ground := Go.Ground.data }, { on := 46, ground := Go.Ground.data }, { on := 34, ground := Go.Ground.guard }], guard := some (34, false) }) (v := ?_) rfl (by kernel_rfl) (by kernel_rfl) (by kernel_rfl) (fun _ _ _ h => h) (Or.inl ⟨by rfl, ?_⟩) (by assumption) ?_
  rotate_left
  (intro w hSw; (try dsimp only at hSw); go_simp; try (with_reducible rfl))
  simp only [Act.put, List.setIfInBounds_toArray, List.set_cons_zero, List.set_cons_succ]
  refine wpAnyH_take (i := 48) (oi := { dst := some 220, op := Go.Op.pick (Go.Operand.tmp 206) (Go.Operand.const (Go.Value.bool true)) (Go.Operand.tmp 219), type := 4, pos := "law.go:110", after := #[{ on := 34, ground := Go.Ground.data }, { on := 47, ground := Go.Ground.data }], guard := none }) (v := ?_) rfl (by kernel_rfl) (by kernel_rfl) (by kernel_rfl) (fun _ _ _ h => h) (Or.inl ⟨by rfl, ?_⟩) (by assumption) ?_
  rotate_left
  (intro w hSw; (try dsimp only at hSw); go_simp; try (with_reducible rfl))
  simp only [Act.put, List.setIfInBounds_toArray, List.set_cons_zero, List.set_cons_succ]
  refine wpAnyH_take (i := 49) (oi := { dst := some 221, op := Go.Op.move (Go.Operand.tmp 220), type := 4, pos := "law.go:110", after := #[{ on := 48, ground := Go.Ground.data }, { on := 43, ground := Go.Ground.chain }], guard := none }) (v := ?_) rfl (by kernel_rfl) (by kernel_rfl) (by kernel_rfl) (fun _ _ _ h => h) (Or.inl ⟨by rfl, ?_⟩) (by assumption) ?_
  rotate_left
  (intro w hSw; (try dsimp only at hSw); go_simp; try (with_reducible rfl))
  simp only [Act.put, List.setIfInBounds_toArray, List.set_cons_zero, List.set_cons_succ]
  refine wpAnyH_take (i := 50) (oi := { dst := some 222, op := Go.Op.fieldAddr 25 (Go.Operand.tmp 19) 1, type := 0, pos := "law.go:110", after := #[{ on := 49, ground := Go.Ground.guard }], guard := some (49, false) }) (v := ?_) rfl (by kernel_rfl) (by kernel_rfl) (by kernel_rfl) (fun _ _ _ h => h) (Or.inl ⟨by rfl, ?_⟩) (by assumption) ?_
  rotate_left
  (intro w hSw; (try dsimp only at hSw); go_simp; try (with_reducible rfl))
  simp only [Act.put, List.setIfInBounds_toArray, List.set_cons_zero, List.set_cons_succ]
  refine wpAnyH_take (i := 51) (oi := { dst := some 223, op := Go.Op.load 23 (Go.Operand.tmp 222), type := 23, pos := "law.go:110", after := #[{ on := 50, ground := Go.Ground.data }, { on := 49, ground := Go.Ground.guard }], guard := some (49, false) }) (v := ?_) rfl (by kernel_rfl) (by kernel_rfl) (by kernel_rfl) (fun _ _ _ h => h) (Or.inl ⟨by rfl, ?_⟩) (by assumption) ?_
  rotate_left
  (intro w hSw; (try dsimp only at hSw); go_simp; try (with_reducible rfl))
  simp only [Act.put, List.setIfInBounds_toArray, List.set_cons_zero, List.set_cons_succ]
  refine wpAnyH_take (i := 52) (oi := { dst := some 224, op := Go.Op.binOp Go.BinOp.neq 23 (Go.Operand.tmp 223) (Go.Operand.const (Go.Value.int Go.IntKind.u8 0)) 23, type := 4, pos := "law.go:110", after := #[{ on := 51, ground := Go.Ground.data }, { on := 49, ground := Go.Ground.guard }], guard := some (49, false) }) (v := ?_) rfl (by kernel_rfl) (by kernel_rfl) (by kernel_rfl) (fun _ _ _ h => h) (Or.inl ⟨by rfl, ?_⟩) (by assumption) ?_
  rotate_left
  (intro w hSw; (try dsimp only at hSw); go_simp; try (with_reducible rfl))
  simp only [Act.put, List.setIfInBounds_toArray, List.set_cons_zero, List.set_cons_succ]
  refine wpAnyH_take (i := 53) (oi := { dst := some 225, op := Go.Op.move (Go.Operand.tmp 224), type := 4, pos := "law.go:110", after := #[{ on := 52, ground := Go.Ground.data }, { on := 49, ground := Go.Ground.chain }, { on := 49, ground := Go.Ground.guard }], guard := some (49, false) }) (v := ?_) rfl (by kernel_rfl) (by kernel_rfl) (by kernel_rfl) (fun _ _ _ h => h) (Or.inl ⟨by rfl, ?_⟩) (by assumption) ?_
  rotate_left
  (intro w hSw; (try dsimp only at hSw); go_simp; try (with_reducible rfl))
  simp only [Act.put, List.setIfInBounds_toArray, List.set_cons_zero, List.set_cons_succ]
  refine wpAnyH_take (i := 54) (oi := { dst := some 226, op := Go.Op.fieldAddr 25 (Go.Operand.tmp 19) 0, type := 0, pos := "law.go:110", after := #[{ on := 53, ground := Go.Ground.guard }], guard := some (53, true) }) (v := undef) rfl (by kernel_rfl) (by kernel_rfl) (by kernel_rfl) (fun _ _ _ h => h) (Or.inr ⟨by rfl, rfl⟩) (by assumption) ?_
  simp only [Act.put, List.setIfInBounds_toArray, List.set_cons_zero, List.set_cons_succ]
  refine wpAnyH_take (i := 55) (oi := { dst := some 227, op := Go.Op.load 22 (Go.Operand.tmp 226), type := 22, pos := "law.go:110", after := #[{ on := 54, ground := Go.Ground.data }, { on := 53, ground := Go.Ground.guard }], guard := some (53, true) }) (v := undef) rfl (by kernel_rfl) (by kernel_rfl) (by kernel_rfl) (fun _ _ _ h => h) (Or.inr ⟨by rfl, rfl⟩) (by assumption) ?_
  simp only [Act.put, List.setIfInBounds_toArray, List.set_cons_zero, List.set_cons_succ]
  refine wpAnyH_take (i := 56) (oi := { dst := some 228, op := Go.Op.binOp Go.BinOp.neq 22 (Go.Operand.tmp 227) (Go.Operand.const (Go.Value.int Go.IntKind.u8 2)) 22, type := 4, pos := "law.go:110", after := #[{ on := 55, ground := Go.Ground.data }, { on := 53, ground := Go.Ground.guard }], guard := some (53, true) }) (v := undef) rfl (by kernel_rfl) (by kernel_rfl) (by kernel_rfl) (fun _ _ _ h => h) (Or.inr ⟨by rfl, rfl⟩) (by assumption) ?_
  simp only [Act.put, List.setIfInBounds_toArray, List.set_cons_zero, List.set_cons_succ]
  refine wpAnyH_take (i := 57) (oi := { dst := some 229, op := Go.Op.pick (Go.Operand.tmp 225) (Go.Operand.tmp 228) (Go.Operand.const (Go.Value.bool false)), type := 4, pos := "law.go:110", after := #[{ on := 53, ground := Go.Ground.data }, { on := 56, ground := Go.Ground.data }, { on := 49, ground := Go.Ground.guard }], guard := some (49, false) }) (v := ?_) rfl (by kernel_rfl) (by kernel_rfl) (by kernel_rfl) (fun _ _ _ h => h) (Or.inl ⟨by rfl, ?_⟩) (by assumption) ?_
  rotate_left
  (intro w hSw; (try dsimp only at hSw); go_simp; try (with_reducible rfl))
  simp only [Act.put, List.setIfInBounds_toArray, List.set_cons_zero, List.set_cons_succ]
  refine wpAnyH_take (i := 58) (oi := { dst := some 230, op := Go.Op.pick (Go.Operand.tmp 221) (Go.Operand.const (Go.Value.bool true)) (Go.Operand.tmp 229), type := 4, pos := "law.go:110", after := #[{ on := 49, ground := Go.Ground.data }, { on := 57, ground := Go.Ground.data }], guard := none }) (v := ?_) rfl (by kernel_rfl) (by kernel_rfl) (by kernel_rfl) (fun _ _ _ h => h) (Or.inl ⟨by rfl, ?_⟩) (by assumption) ?_
  rotate_left
  (intro w hSw; (try dsimp only at hSw); go_simp; try (with_reducible rfl))
  simp only [Act.put, List.setIfInBounds_toArray, List.set_cons_zero, List.set_cons_succ]
  refine wpAnyH_done (by kernel_rfl) (NoPanic.normal ?_) _
  have HGf := hid (HG5r.out.trans hHeld.2.2.2.2.2.2.2.2.2.2.2.2.2.2)
  obtain ⟨q0, q1, q2, q3, q4, q5, q6, q7, q8, q9, q10, q11, q12, q13, _⟩ := hHeld
  go_simp
  go_wp2_with (fail)
  exact HEND.out _ _ _ _ _ _ _ _ _ _ _ _ _ _ _ _ _ _ _ _ _ _ _ _ _ _ _ _ _ _ _ _ _ _ _ _ _ _ _ _ _ _ _ _ _ _ _ _ _ _ _ _ _ _ _ _ _ _ _ _ _ _ _ _ _ _ _ _ _ _ _ _ _ _ _ _ _ _ _ _ _ _ _ _ _ _ _ _ _ _ _ _ _ _ _ _ _ _ _ _ _ _ _ _ _ _ _ _ _ _ _ _ _ _ _ _ _ _ _ _ _ _ _ _ _ _ _ _ _ _ _ _ _ _ _ _ _ _ _ _ _ _ _ _ _ _ _ _ _ _ _ _ _ _ _ _ _ _ _ _ _ _ _ _ _ _ _ _ _ _ _ _ _ _ _ _ _ _ _ _ _ _ _ _ _ _ _ _ _ _ _ _ _ _ _ _ _ _ _ _ _ _ _ _ _ _ _ _ _ _ _ _ _ _ _ _ _ _ _ _ _ _ _ _ _ _ _ _ _ _ _ _ _ _ _ _ _ _ _ _ _ _ _ _ _ _ _ _ _ _ _ _ _ _ _ _ _ _ _ _ _ _ _ _ _ _ _ _ _ _ _ _ _ _ _ _ _ _ HGf.out
end Go.Proofs.YteiekjijbaohoaaDoor
