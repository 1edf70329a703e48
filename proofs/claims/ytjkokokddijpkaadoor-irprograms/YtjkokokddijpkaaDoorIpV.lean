
/- IrPrograms: two regions that draw. -/
import Derived.Test.YtjkokokddijpkaaDoorIpG
import Derived.Test.YtjkokokddijpkaaDoorFd
import Derived.Sort.CutIn
import Derived.Deep.RegionHeld3
set_option linter.unusedSimpArgs false
set_option linter.unusedVariables false
namespace Go.Proofs.YtjkokokddijpkaaDoor
open Go.RowKit Go.Sort Go.Maps

set_option maxRecDepth 100000 in
set_option maxHeartbeats 16000000 in
theorem irp45 {Q : Exit → Act → World → Prop} {ds : List Deferred} {X : World} {lp nn b12 b16 b25 bz ib io_ il xc cb co cc n zi k qn ic : Nat} {ia : Option Addr} {zk zo zd za zb2 zn zs2 : Int} {t0 t1 t2 t3 t4 t5 t6 t7 t8 t9 t10 t11 t13 t14 t15 t17 t18 t19 t20 t21 t22 t23 t24 t28 t29 t30 t31 t32 t33 t34 t35 t36 t37 t38 t39 t40 t41 t42 t43 t44 t45 t46 t47 t48 t49 t50 t51 t52 t53 t54 t55 t56 t57 t58 t59 t60 t61 t62 t63 t64 t65 t66 t67 t68 t69 t70 t71 t72 t73 t74 t75 t76 t77 t78 t79 t80 t81 t82 t83 t84 t85 t86 t87 t88 t89 t90 t91 t92 t93 t94 t95 t96 t97 t98 t99 t100 t101 t102 t103 t104 t105 t106 t107 t108 t109 t110 t111 t112 t113 t114 t115 t116 t117 t118 t119 t120 t121 t122 t123 t124 t125 t126 t127 t128 t129 t130 t131 t132 t133 t134 t135 t136 t137 t138 t139 t140 t141 t142 t143 t144 t145 t146 t147 t148 t149 t150 t151 t152 t153 t154 t155 t156 t157 t158 t159 t160 t161 t162 t163 t164 t165 t166 t167 t168 t169 t170 t171 t172 t173 t174 t175 t176 t177 t178 t179 t180 t181 t182 t183 t184 t185 t186 t187 t188 t189 t190 t191 t192 t193 t194 t195 t196 t197 t198 t199 t200 t201 t202 t203 t204 t205 t206 t207 t208 t209 t210 t211 t212 t213 t214 t215 t216 t217 t218 t219 t220 t221 t222 t223 t224 t225 t226 t227 t228 t229 t230 t231 t232 t233 t234 t235 t236 t237 t238 t239 t240 t241 t242 t243 t244 t245 t246 t247 t248 t249 t250 t251 t252 t253 t254 t255 t256 t257 t258 t259 t260 t261 t262 t263 t264 t265 t266 t267 : Value} (hmo : Tryd.prog.follows .mixedOrders = true)
    (r0 : X.cell? ⟨bz, 0, none⟩ = some (.int .u8 zk)) (r1 : X.cell? ⟨bz, 1, none⟩ = some (.int .u8 zo)) (r2 : X.cell? ⟨bz, 2, none⟩ = some (.int .i64 zd)) (r3 : X.cell? ⟨bz, 3, none⟩ = some (.int .i64 za)) (r4 : X.cell? ⟨bz, 4, none⟩ = some (.int .i64 zb2)) (r5 : X.cell? ⟨bz, 5, none⟩ = some (.int .i64 zn)) (r6 : X.cell? ⟨bz, 6, none⟩ = some (.int .i64 zs2)) (q0 : X.cell? ⟨ib, io_ + k * 7, none⟩ = some (.int .u8 zk)) (q1 : X.cell? ⟨ib, io_ + k * 7 + 1, none⟩ = some (.int .u8 zo)) (q2 : X.cell? ⟨ib, io_ + k * 7 + 2, none⟩ = some (.int .i64 zd)) (q3 : X.cell? ⟨ib, io_ + k * 7 + 3, none⟩ = some (.int .i64 za)) (q4 : X.cell? ⟨ib, io_ + k * 7 + 4, none⟩ = some (.int .i64 zb2)) (q5 : X.cell? ⟨ib, io_ + k * 7 + 5, none⟩ = some (.int .i64 zn)) (q6 : X.cell? ⟨ib, io_ + k * 7 + 6, none⟩ = some (.int .i64 zs2)) (c16 : X.cell? ⟨b16, 0, none⟩ = some (.slice (some ⟨ib, io_, none⟩) il xc)) (c25 : X.cell? ⟨b25, 0, none⟩ = some (.int .i64 (k : Nat))) (e12 : X.cell? ⟨b12, 0, none⟩ = some (.slice (some ⟨cb, co, none⟩) n cc)) (p2 : X.cell? ⟨cb, co + zi * 7 + 2, none⟩ = some (.slice ia qn ic))
    (hkI : k < il) (hjl : zi < n) (HCT : Hid (∀ W, Tch [] X W → Calls Tryd.prog 16 #[.slice ia qn ic, .agg #[.int .u8 zk, .int .u8 zo, .int .i64 zd, .int .i64 za, .int .i64 zb2, .int .i64 zn, .int .i64 zs2]] W fun e w' => e = .returned (.bool true) ∧ Tch [] W w')) (hQ : ¬ LetsOut (NoPanic Q))
    (h : ∀ (x1 : World) (v163 v164 v165 v166 v167 v168 v169 v170 v171 v172 v173 v174 v175 v176 v177 v178 : Value), Tch [] X x1 → Q .normal { tmps := #[t0, t1, t2, t3, t4, t5, t6, t7, t8, t9, t10, t11, .pointer (some ⟨b12, 0, none⟩), t13, t14, t15, .pointer (some ⟨b16, 0, none⟩), t17, t18, t19, t20, t21, t22, t23, t24, .pointer (some ⟨b25, 0, none⟩), .int .i64 (zi : Nat), .pointer (some ⟨bz, 0, none⟩), t28, t29, t30, t31, t32, t33, t34, t35, t36, t37, t38, t39, t40, t41, t42, t43, t44, t45, t46, t47, t48, t49, t50, t51, t52, t53, t54, t55, t56, t57, t58, t59, t60, t61, t62, t63, t64, t65, t66, t67, t68, t69, t70, t71, t72, t73, t74, t75, t76, t77, t78, t79, t80, t81, t82, t83, t84, t85, t86, t87, t88, t89, t90, t91, t92, t93, t94, t95, t96, t97, t98, t99, t100, t101, t102, t103, t104, t105, t106, t107, t108, t109, t110, t111, t112, t113, t114, t115, t116, t117, t118, t119, t120, t121, t122, t123, t124, t125, t126, t127, t128, t129, t130, t131, t132, t133, t134, t135, t136, t137, t138, t139, t140, t141, t142, t143, t144, t145, t146, t147, t148, t149, t150, t151, t152, t153, t154, t155, t156, t157, t158, t159, t160, t161, t162, v163, v164, v165, v166, v167, v168, v169, v170, v171, v172, v173, v174, v175, v176, v177, v178, .bool false, t180, t181, t182, t183, t184, t185, t186, t187, t188, t189, t190, t191, t192, t193, t194, t195, t196, t197, t198, t199, t200, t201, t202, t203, t204, t205, t206, t207, t208, t209, t210, t211, t212, t213, t214, t215, t216, t217, t218, t219, t220, t221, t222, t223, t224, t225, t226, t227, t228, t229, t230, t231, t232, t233, t234, t235, t236, t237, t238, t239, t240, t241, t242, t243, t244, t245, t246, t247, t248, t249, t250, t251, t252, t253, t254, t255, t256, t257, t258, t259, t260, t261, t262, t263, t264, t265, t266, t267], defers := ds } x1) :
    (Code.region 45 #[{ dst := some 163, op := Go.Op.load 48 (Go.Operand.tmp 27), type := 48, pos := "law.go:192", after := #[], guard := none }, { dst := some 164, op := Go.Op.load 37 (Go.Operand.tmp 16), type := 37, pos := "law.go:192", after := #[], guard := none }, { dst := some 165, op := Go.Op.load 3 (Go.Operand.tmp 25), type := 3, pos := "law.go:192", after := #[], guard := none }, { dst := some 166, op := Go.Op.indexAddr 37 (Go.Operand.tmp 164) (Go.Operand.tmp 165), type := 0, pos := "law.go:192", after := #[{ on := 1, ground := Go.Ground.data }, { on := 2, ground := Go.Ground.data }], guard := none }, { dst := some 167, op := Go.Op.load 48 (Go.Operand.tmp 166), type := 48, pos := "law.go:192", after := #[{ on := 3, ground := Go.Ground.data }], guard := none }, { dst := some 168, op := Go.Op.binOp Go.BinOp.neq 48 (Go.Operand.tmp 163) (Go.Operand.tmp 167) 48, type := 4, pos := "law.go:192", after := #[{ on := 0, ground := Go.Ground.data }, { on := 4, ground := Go.Ground.data }], guard := none }, { dst := some 169, op := Go.Op.move (Go.Operand.tmp 168), type := 4, pos := "law.go:192", after := #[{ on := 5, ground := Go.Ground.data }], guard := none }, { dst := some 170, op := Go.Op.fieldAddr 29 (Go.Operand.tmp 12) 0, type := 0, pos := "law.go:192", after := #[{ on := 6, ground := Go.Ground.guard }], guard := some (6, false) }, { dst := some 171, op := Go.Op.load 27 (Go.Operand.tmp 170), type := 27, pos := "law.go:192", after := #[{ on := 7, ground := Go.Ground.data }, { on := 6, ground := Go.Ground.guard }], guard := some (6, false) }, { dst := some 172, op := Go.Op.move (Go.Operand.tmp 26), type := 3, pos := "law.go:192", after := #[{ on := 6, ground := Go.Ground.guard }], guard := some (6, false) }, { dst := some 173, op := Go.Op.indexAddr 27 (Go.Operand.tmp 171) (Go.Operand.tmp 172), type := 0, pos := "law.go:192", after := #[{ on := 8, ground := Go.Ground.data }, { on := 9, ground := Go.Ground.data }, { on := 6, ground := Go.Ground.guard }], guard := some (6, false) }, { dst := some 174, op := Go.Op.fieldAddr 42 (Go.Operand.tmp 173) 2, type := 0, pos := "law.go:192", after := #[{ on := 10, ground := Go.Ground.data }, { on := 6, ground := Go.Ground.guard }], guard := some (6, false) }, { dst := some 175, op := Go.Op.load 37 (Go.Operand.tmp 174), type := 37, pos := "law.go:192", after := #[{ on := 11, ground := Go.Ground.data }, { on := 6, ground := Go.Ground.guard }], guard := some (6, false) }, { dst := some 176, op := Go.Op.load 48 (Go.Operand.tmp 27), type := 48, pos := "law.go:192", after := #[{ on := 6, ground := Go.Ground.guard }], guard := some (6, false) }, { dst := some 177, op := Go.Op.call { callee := Go.Callee.value (Go.Operand.func 16), args := #[Go.Operand.tmp 175, Go.Operand.tmp 176], argTypes := #[37, 48] }, type := 4, pos := "law.go:192", after := #[{ on := 12, ground := Go.Ground.data }, { on := 13, ground := Go.Ground.data }, { on := 6, ground := Go.Ground.chain }, { on := 6, ground := Go.Ground.guard }], guard := some (6, false) }, { dst := some 178, op := Go.Op.unOp Go.UnOp.not 4 (Go.Operand.tmp 177), type := 4, pos := "law.go:192", after := #[{ on := 14, ground := Go.Ground.data }, { on := 6, ground := Go.Ground.guard }], guard := some (6, false) }, { dst := some 179, op := Go.Op.pick (Go.Operand.tmp 169) (Go.Operand.const (Go.Value.bool true)) (Go.Operand.tmp 178), type := 4, pos := "law.go:192", after := #[{ on := 6, ground := Go.Ground.data }, { on := 15, ground := Go.Ground.data }], guard := none }] true).wpIn (Fence.wide.inRound lp) nn Tryd.prog Q { tmps := #[t0, t1, t2, t3, t4, t5, t6, t7, t8, t9, t10, t11, .pointer (some ⟨b12, 0, none⟩), t13, t14, t15, .pointer (some ⟨b16, 0, none⟩), t17, t18, t19, t20, t21, t22, t23, t24, .pointer (some ⟨b25, 0, none⟩), .int .i64 (zi : Nat), .pointer (some ⟨bz, 0, none⟩), t28, t29, t30, t31, t32, t33, t34, t35, t36, t37, t38, t39, t40, t41, t42, t43, t44, t45, t46, t47, t48, t49, t50, t51, t52, t53, t54, t55, t56, t57, t58, t59, t60, t61, t62, t63, t64, t65, t66, t67, t68, t69, t70, t71, t72, t73, t74, t75, t76, t77, t78, t79, t80, t81, t82, t83, t84, t85, t86, t87, t88, t89, t90, t91, t92, t93, t94, t95, t96, t97, t98, t99, t100, t101, t102, t103, t104, t105, t106, t107, t108, t109, t110, t111, t112, t113, t114, t115, t116, t117, t118, t119, t120, t121, t122, t123, t124, t125, t126, t127, t128, t129, t130, t131, t132, t133, t134, t135, t136, t137, t138, t139, t140, t141, t142, t143, t144, t145, t146, t147, t148, t149, t150, t151, t152, t153, t154, t155, t156, t157, t158, t159, t160, t161, t162, t163, t164, t165, t166, t167, t168, t169, t170, t171, t172, t173, t174, t175, t176, t177, t178, t179, t180, t181, t182, t183, t184, t185, t186, t187, t188, t189, t190, t191, t192, t193, t194, t195, t196, t197, t198, t199, t200, t201, t202, t203, t204, t205, t206, t207, t208, t209, t210, t211, t212, t213, t214, t215, t216, t217, t218, t219, t220, t221, t222, t223, t224, t225, t226, t227, t228, t229, t230, t231, t232, t233, t234, t235, t236, t237, t238, t239, t240, t241, t242, t243, t244, t245, t246, t247, t248, t249, t250, t251, t252, t253, t254, t255, t256, t257, t258, t259, t260, t261, t262, t263, t264, t265, t266, t267], defers := ds } X := by
  have eI : eqI ⟨zk, zo, zd, za, zb2, zn, zs2⟩ ⟨zk, zo, zd, za, zb2, zn, zs2⟩ = true := by simp [eqI]
  have lib := cell_lt q0
  have lcb := cell_lt p2
  simp only at lib lcb
  have KS : Hid (∀ w', Tch [] X w' → Tch [] X w' ∧ w'.cell? ⟨bz, 0, none⟩ = some (.int .u8 zk) ∧ w'.cell? ⟨bz, 1, none⟩ = some (.int .u8 zo) ∧ w'.cell? ⟨bz, 2, none⟩ = some (.int .i64 zd) ∧ w'.cell? ⟨bz, 3, none⟩ = some (.int .i64 za) ∧ w'.cell? ⟨bz, 4, none⟩ = some (.int .i64 zb2) ∧ w'.cell? ⟨bz, 5, none⟩ = some (.int .i64 zn) ∧ w'.cell? ⟨bz, 6, none⟩ = some (.int .i64 zs2) ∧ w'.cell? ⟨ib, io_ + k * 7, none⟩ = some (.int .u8 zk) ∧ w'.cell? ⟨ib, io_ + k * 7 + 1, none⟩ = some (.int .u8 zo) ∧ w'.cell? ⟨ib, io_ + k * 7 + 2, none⟩ = some (.int .i64 zd) ∧ w'.cell? ⟨ib, io_ + k * 7 + 3, none⟩ = some (.int .i64 za) ∧ w'.cell? ⟨ib, io_ + k * 7 + 4, none⟩ = some (.int .i64 zb2) ∧ w'.cell? ⟨ib, io_ + k * 7 + 5, none⟩ = some (.int .i64 zn) ∧ w'.cell? ⟨ib, io_ + k * 7 + 6, none⟩ = some (.int .i64 zs2) ∧ w'.cell? ⟨b16, 0, none⟩ = some (.slice (some ⟨ib, io_, none⟩) il xc) ∧ w'.cell? ⟨b25, 0, none⟩ = some (.int .i64 (k : Nat)) ∧ w'.cell? ⟨b12, 0, none⟩ = some (.slice (some ⟨cb, co, none⟩) n cc) ∧ w'.cell? ⟨cb, co + zi * 7 + 2, none⟩ = some (.slice ia qn ic)) := fun w' t => ⟨t, tch_val t r0 (by simp), tch_val t r1 (by simp), tch_val t r2 (by simp), tch_val t r3 (by simp), tch_val t r4 (by simp), tch_val t r5 (by simp), tch_val t r6 (by simp), tch_val t q0 (by simp), tch_val t q1 (by simp), tch_val t q2 (by simp), tch_val t q3 (by simp), tch_val t q4 (by simp), tch_val t q5 (by simp), tch_val t q6 (by simp), tch_val t c16 (by simp), tch_val t c25 (by simp), tch_val t e12 (by simp), tch_val t p2 (by simp)⟩
  refine region_z_round (fun w' => Tch [] X w' ∧ w'.cell? ⟨bz, 0, none⟩ = some (.int .u8 zk) ∧ w'.cell? ⟨bz, 1, none⟩ = some (.int .u8 zo) ∧ w'.cell? ⟨bz, 2, none⟩ = some (.int .i64 zd) ∧ w'.cell? ⟨bz, 3, none⟩ = some (.int .i64 za) ∧ w'.cell? ⟨bz, 4, none⟩ = some (.int .i64 zb2) ∧ w'.cell? ⟨bz, 5, none⟩ = some (.int .i64 zn) ∧ w'.cell? ⟨bz, 6, none⟩ = some (.int .i64 zs2) ∧ w'.cell? ⟨ib, io_ + k * 7, none⟩ = some (.int .u8 zk) ∧ w'.cell? ⟨ib, io_ + k * 7 + 1, none⟩ = some (.int .u8 zo) ∧ w'.cell? ⟨ib, io_ + k * 7 + 2, none⟩ = some (.int .i64 zd) ∧ w'.cell? ⟨ib, io_ + k * 7 + 3, none⟩ = some (.int .i64 za) ∧ w'.cell? ⟨ib, io_ + k * 7 + 4, none⟩ = some (.int .i64 zb2) ∧ w'.cell? ⟨ib, io_ + k * 7 + 5, none⟩ = some (.int .i64 zn) ∧ w'.cell? ⟨ib, io_ + k * 7 + 6, none⟩ = some (.int .i64 zs2) ∧ w'.cell? ⟨b16, 0, none⟩ = some (.slice (some ⟨ib, io_, none⟩) il xc) ∧ w'.cell? ⟨b25, 0, none⟩ = some (.int .i64 (k : Nat)) ∧ w'.cell? ⟨b12, 0, none⟩ = some (.slice (some ⟨cb, co, none⟩) n cc) ∧ w'.cell? ⟨cb, co + zi * 7 + 2, none⟩ = some (.slice ia qn ic)) 16 hmo (by kernel_rfl) hQ (KS.out _ (Tch.refl _ _).drew) (fun hHeld => ?_)
  have T0 := hid (show Tch [] X X.drew from (Tch.refl _ _).drew)
  generalize X.drew = x0 at *
  refine wpAnyZ_takeT 17 (i := 0) (oi := { dst := some 163, op := Go.Op.load 48 (Go.Operand.tmp 27), type := 48, pos := "law.go:192", after := #[], guard := none }) (v := ?_) rfl (by kernel_rfl) (by kernel_rfl) (by kernel_rfl) (by kernel_rfl) (by kernel_rfl) (fun _ _ _ h => h) (Or.inl ⟨by rfl, ?_⟩) (by assumption) ?_
  rotate_left
  (intro w hSw; (try dsimp only at hSw); go_simp; try (with_reducible rfl))
  try simp only [Act.put, List.setIfInBounds_toArray, List.set_cons_zero, List.set_cons_succ]
  refine wpAnyZ_takeT 17 (i := 1) (oi := { dst := some 164, op := Go.Op.load 37 (Go.Operand.tmp 16), type := 37, pos := "law.go:192", after := #[], guard := none }) (v := ?_) rfl (by kernel_rfl) (by kernel_rfl) (by kernel_rfl) (by kernel_rfl) (by kernel_rfl) (fun _ _ _ h => h) (Or.inl ⟨by rfl, ?_⟩) (by assumption) ?_
  rotate_left
  (intro w hSw; (try dsimp only at hSw); go_simp; try (with_reducible rfl))
  try simp only [Act.put, List.setIfInBounds_toArray, List.set_cons_zero, List.set_cons_succ]
  refine wpAnyZ_takeT 17 (i := 2) (oi := { dst := some 165, op := Go.Op.load 3 (Go.Operand.tmp 25), type := 3, pos := "law.go:192", after := #[], guard := none }) (v := ?_) rfl (by kernel_rfl) (by kernel_rfl) (by kernel_rfl) (by kernel_rfl) (by kernel_rfl) (fun _ _ _ h => h) (Or.inl ⟨by rfl, ?_⟩) (by assumption) ?_
  rotate_left
  (intro w hSw; (try dsimp only at hSw); go_simp; try (with_reducible rfl))
  try simp only [Act.put, List.setIfInBounds_toArray, List.set_cons_zero, List.set_cons_succ]
  refine wpAnyZ_takeT 17 (i := 3) (oi := { dst := some 166, op := Go.Op.indexAddr 37 (Go.Operand.tmp 164) (Go.Operand.tmp 165), type := 0, pos := "law.go:192", after := #[{ on := 1, ground := Go.Ground.data }, { on := 2, ground := Go.Ground.data }], guard := none }) (v := ?_) rfl (by kernel_rfl) (by kernel_rfl) (by kernel_rfl) (by kernel_rfl) (by kernel_rfl) (fun _ _ _ h => h) (Or.inl ⟨by rfl, ?_⟩) (by assumption) ?_
  rotate_left
  (intro w hSw; (try dsimp only at hSw); go_simp; try (with_reducible rfl))
  try simp only [Act.put, List.setIfInBounds_toArray, List.set_cons_zero, List.set_cons_succ]
  refine wpAnyZ_takeT 17 (i := 4) (oi := { dst := some 167, op := Go.Op.load 48 (Go.Operand.tmp 166), type := 48, pos := "law.go:192", after := #[{ on := 3, ground := Go.Ground.data }], guard := none }) (v := ?_) rfl (by kernel_rfl) (by kernel_rfl) (by kernel_rfl) (by kernel_rfl) (by kernel_rfl) (fun _ _ _ h => h) (Or.inl ⟨by rfl, ?_⟩) (by assumption) ?_
  rotate_left
  (intro w hSw; (try dsimp only at hSw); go_simp; try (with_reducible rfl))
  try simp only [Act.put, List.setIfInBounds_toArray, List.set_cons_zero, List.set_cons_succ]
  refine wpAnyZ_takeT 17 (i := 5) (oi := { dst := some 168, op := Go.Op.binOp Go.BinOp.neq 48 (Go.Operand.tmp 163) (Go.Operand.tmp 167) 48, type := 4, pos := "law.go:192", after := #[{ on := 0, ground := Go.Ground.data }, { on := 4, ground := Go.Ground.data }], guard := none }) (v := .bool false) rfl (by kernel_rfl) (by kernel_rfl) (by kernel_rfl) (by kernel_rfl) (by kernel_rfl) (fun _ _ _ h => h) (Or.inl ⟨by rfl, ?_⟩) (by assumption) ?_
  · intro w hSw
    (try dsimp only at hSw)
    refine (run_neq_ins ⟨zk, zo, zd, za, zb2, zn, zs2⟩ ⟨zk, zo, zd, za, zb2, zn, zs2⟩ (.tmp 163) (.tmp 167) rfl rfl rfl w).trans ?_
    rw [eI]; rfl
  try simp only [Act.put, List.setIfInBounds_toArray, List.set_cons_zero, List.set_cons_succ]
  refine wpAnyZ_takeT 17 (i := 6) (oi := { dst := some 169, op := Go.Op.move (Go.Operand.tmp 168), type := 4, pos := "law.go:192", after := #[{ on := 5, ground := Go.Ground.data }], guard := none }) (v := ?_) rfl (by kernel_rfl) (by kernel_rfl) (by kernel_rfl) (by kernel_rfl) (by kernel_rfl) (fun _ _ _ h => h) (Or.inl ⟨by rfl, ?_⟩) (by assumption) ?_
  rotate_left
  (intro w hSw; (try dsimp only at hSw); go_simp; try (with_reducible rfl))
  try simp only [Act.put, List.setIfInBounds_toArray, List.set_cons_zero, List.set_cons_succ]
  refine wpAnyZ_takeT 17 (i := 7) (oi := { dst := some 170, op := Go.Op.fieldAddr 29 (Go.Operand.tmp 12) 0, type := 0, pos := "law.go:192", after := #[{ on := 6, ground := Go.Ground.guard }], guard := some (6, false) }) (v := ?_) rfl (by kernel_rfl) (by kernel_rfl) (by kernel_rfl) (by kernel_rfl) (by kernel_rfl) (fun _ _ _ h => h) (Or.inl ⟨by rfl, ?_⟩) (by assumption) ?_
  rotate_left
  (intro w hSw; (try dsimp only at hSw); go_simp; try (with_reducible rfl))
  try simp only [Act.put, List.setIfInBounds_toArray, List.set_cons_zero, List.set_cons_succ]
  refine wpAnyZ_takeT 17 (i := 8) (oi := { dst := some 171, op := Go.Op.load 27 (Go.Operand.tmp 170), type := 27, pos := "law.go:192", after := #[{ on := 7, ground := Go.Ground.data }, { on := 6, ground := Go.Ground.guard }], guard := some (6, false) }) (v := ?_) rfl (by kernel_rfl) (by kernel_rfl) (by kernel_rfl) (by kernel_rfl) (by kernel_rfl) (fun _ _ _ h => h) (Or.inl ⟨by rfl, ?_⟩) (by assumption) ?_
  rotate_left
  (intro w hSw; (try dsimp only at hSw); go_simp; try (with_reducible rfl))
  try simp only [Act.put, List.setIfInBounds_toArray, List.set_cons_zero, List.set_cons_succ]
  refine wpAnyZ_takeT 17 (i := 9) (oi := { dst := some 172, op := Go.Op.move (Go.Operand.tmp 26), type := 3, pos := "law.go:192", after := #[{ on := 6, ground := Go.Ground.guard }], guard := some (6, false) }) (v := ?_) rfl (by kernel_rfl) (by kernel_rfl) (by kernel_rfl) (by kernel_rfl) (by kernel_rfl) (fun _ _ _ h => h) (Or.inl ⟨by rfl, ?_⟩) (by assumption) ?_
  rotate_left
  (intro w hSw; (try dsimp only at hSw); go_simp; try (with_reducible rfl))
  try simp only [Act.put, List.setIfInBounds_toArray, List.set_cons_zero, List.set_cons_succ]
  refine wpAnyZ_takeT 17 (i := 10) (oi := { dst := some 173, op := Go.Op.indexAddr 27 (Go.Operand.tmp 171) (Go.Operand.tmp 172), type := 0, pos := "law.go:192", after := #[{ on := 8, ground := Go.Ground.data }, { on := 9, ground := Go.Ground.data }, { on := 6, ground := Go.Ground.guard }], guard := some (6, false) }) (v := ?_) rfl (by kernel_rfl) (by kernel_rfl) (by kernel_rfl) (by kernel_rfl) (by kernel_rfl) (fun _ _ _ h => h) (Or.inl ⟨by rfl, ?_⟩) (by assumption) ?_
  rotate_left
  (intro w hSw; (try dsimp only at hSw); go_simp; try (with_reducible rfl))
  try simp only [Act.put, List.setIfInBounds_toArray, List.set_cons_zero, List.set_cons_succ]
  refine wpAnyZ_takeT 17 (i := 11) (oi := { dst := some 174, op := Go.Op.fieldAddr 42 (Go.Operand.tmp 173) 2, type := 0, pos := "law.go:192", after := #[{ on := 10, ground := Go.Ground.data }, { on := 6, ground := Go.Ground.guard }], guard := some (6, false) }) (v := ?_) rfl (by kernel_rfl) (by kernel_rfl) (by kernel_rfl) (by kernel_rfl) (by kernel_rfl) (fun _ _ _ h => h) (Or.inl ⟨by rfl, ?_⟩) (by assumption) ?_
  rotate_left
  (intro w hSw; (try dsimp only at hSw); go_simp; try (with_reducible rfl))
  try simp only [Act.put, List.setIfInBounds_toArray, List.set_cons_zero, List.set_cons_succ]
  refine wpAnyZ_takeT 17 (i := 12) (oi := { dst := some 175, op := Go.Op.load 37 (Go.Operand.tmp 174), type := 37, pos := "law.go:192", after := #[{ on := 11, ground := Go.Ground.data }, { on := 6, ground := Go.Ground.guard }], guard := some (6, false) }) (v := ?_) rfl (by kernel_rfl) (by kernel_rfl) (by kernel_rfl) (by kernel_rfl) (by kernel_rfl) (fun _ _ _ h => h) (Or.inl ⟨by rfl, ?_⟩) (by assumption) ?_
  rotate_left
  (intro w hSw; (try dsimp only at hSw); go_simp; try (with_reducible rfl))
  try simp only [Act.put, List.setIfInBounds_toArray, List.set_cons_zero, List.set_cons_succ]
  refine wpAnyZ_takeT 17 (i := 13) (oi := { dst := some 176, op := Go.Op.load 48 (Go.Operand.tmp 27), type := 48, pos := "law.go:192", after := #[{ on := 6, ground := Go.Ground.guard }], guard := some (6, false) }) (v := ?_) rfl (by kernel_rfl) (by kernel_rfl) (by kernel_rfl) (by kernel_rfl) (by kernel_rfl) (fun _ _ _ h => h) (Or.inl ⟨by rfl, ?_⟩) (by assumption) ?_
  rotate_left
  (intro w hSw; (try dsimp only at hSw); go_simp; try (with_reducible rfl))
  try simp only [Act.put, List.setIfInBounds_toArray, List.set_cons_zero, List.set_cons_succ]
  refine wpAnyZ_step (i := 14) (o := { dst := some 177, op := Go.Op.call { callee := Go.Callee.value (Go.Operand.func 16), args := #[Go.Operand.tmp 175, Go.Operand.tmp 176], argTypes := #[37, 48] }, type := 4, pos := "law.go:192", after := #[{ on := 12, ground := Go.Ground.data }, { on := 13, ground := Go.Ground.data }, { on := 6, ground := Go.Ground.chain }, { on := 6, ground := Go.Ground.guard }], guard := some (6, false) }) (by kernel_rfl) (by kernel_rfl) (fun Kq hK => ?_)
  go_simp
  go_at_call 16
  refine (HCT.out _ hHeld.1).mono ?_
  rintro e x1 ⟨rfl, t1⟩
  refine hK.out _ _ (KS.out _ (hHeld.1.trans t1)) (fun hH2 => ?_)
  clear hHeld hK Kq
  have hHeld := hH2
  clear hH2
  try simp only [Act.put, List.setIfInBounds_toArray, List.set_cons_zero, List.set_cons_succ]
  clear t1
  refine wpAnyZ_takeT 17 (i := 15) (oi := { dst := some 178, op := Go.Op.unOp Go.UnOp.not 4 (Go.Operand.tmp 177), type := 4, pos := "law.go:192", after := #[{ on := 14, ground := Go.Ground.data }, { on := 6, ground := Go.Ground.guard }], guard := some (6, false) }) (v := ?_) rfl (by kernel_rfl) (by kernel_rfl) (by kernel_rfl) (by kernel_rfl) (by kernel_rfl) (fun _ _ _ h => h) (Or.inl ⟨by rfl, ?_⟩) (by assumption) ?_
  rotate_left
  (intro w hSw; (try dsimp only at hSw); go_simp; try (with_reducible rfl))
  try simp only [Act.put, List.setIfInBounds_toArray, List.set_cons_zero, List.set_cons_succ]
  refine wpAnyZ_last (o := { dst := some 179, op := Go.Op.pick (Go.Operand.tmp 169) (Go.Operand.const (Go.Value.bool true)) (Go.Operand.tmp 178), type := 4, pos := "law.go:192", after := #[{ on := 6, ground := Go.Ground.data }, { on := 15, ground := Go.Ground.data }], guard := none }) (by kernel_rfl) (by kernel_rfl) (fun Kq hK => ?_)
  go_simp
  refine hK.out _ _ ?_
  clear hK Kq
  try simp only [Act.put, List.setIfInBounds_toArray, List.set_cons_zero, List.set_cons_succ]
  refine wpAnyZ_done (by kernel_rfl) (NoPanic.normal ?_) _
  exact h _ _ _ _ _ _ _ _ _ _ _ _ _ _ _ _ _ hHeld.1
set_option maxRecDepth 100000 in
set_option maxHeartbeats 16000000 in
theorem irp49 {Q : Exit → Act → World → Prop} {ds : List Deferred} {y2 : World} {b12 b28 b7 b14 b25 b16 cb co cc cb2 co2 cc2 pb po pc n il cm xc : Nat} {xa : Option Addr} {R ce : Int} {sb : Bool} {t0 t1 t2 t3 t4 t5 t6 t8 t9 t10 t15 t17 t18 t19 t20 t21 t22 t23 t24 t26 t27 t29 t30 t31 t32 t33 t34 t35 t36 t37 t38 t39 t40 t41 t42 t43 t44 t45 t46 t47 t48 t49 t50 t51 t52 t53 t54 t55 t56 t57 t58 t59 t60 t61 t62 t63 t64 t65 t66 t67 t68 t69 t70 t71 t72 t73 t74 t75 t76 t77 t78 t79 t80 t81 t82 t83 t84 t85 t86 t87 t88 t89 t90 t91 t92 t93 t94 t95 t96 t97 t98 t99 t100 t101 t102 t103 t104 t105 t106 t107 t108 t109 t110 t111 t112 t113 t114 t115 t116 t117 t118 t119 t120 t121 t122 t123 t124 t125 t126 t127 t128 t129 t130 t131 t132 t133 t134 t135 t136 t137 t138 t139 t140 t141 t142 t143 t144 t145 t146 t147 t148 t149 t150 t151 t152 t153 t154 t155 t156 t157 t158 t159 t160 t161 t162 t163 t164 t165 t166 t167 t168 t169 t170 t171 t172 t173 t174 t175 t176 t177 t178 t179 t180 t181 t182 t183 t184 t185 t186 t187 t188 t189 t190 t191 t192 t193 t194 t195 t196 t197 t198 t199 t200 t201 t202 t203 t204 t205 t206 t207 t208 t209 t210 t211 t212 t213 t214 t215 t216 t217 t218 t219 t220 t221 t222 t223 t224 t225 t226 t227 t228 t229 t230 t231 t232 t233 t234 t235 t236 t237 t238 t239 t240 t241 t242 t243 t244 t245 t246 t247 t248 t249 t250 t251 t252 t253 t254 t255 t256 t257 t258 t259 t260 t261 t262 t263 t264 t265 t266 t267 : Value} (hmo : Tryd.prog.follows .mixedOrders = true)
    (e12 : y2.cell? ⟨b12, 0, none⟩ = some (.slice (some ⟨cb, co, none⟩) n cc)) (e28 : y2.cell? ⟨b28, 0, none⟩ = some (.slice (some ⟨cb2, co2, none⟩) n cc2)) (e7 : y2.cell? ⟨b7, 0, none⟩ = some (.slice (some ⟨pb, po, none⟩) n pc)) (e14 : y2.cell? ⟨b14, 0, none⟩ = some (.int .i64 R)) (e25 : y2.cell? ⟨b25, 0, none⟩ = some (.int .i64 (il : Nat))) (e16 : y2.cell? ⟨b16, 0, none⟩ = some (.slice xa il xc))
    (HS1 : Hid (∀ W, Tch [] y2 W → Calls Tryd.prog 17 #[.agg #[.slice (some ⟨cb, co, none⟩) n cc], .agg #[.slice (some ⟨cb2, co2, none⟩) n cc2]] W fun e w' => e = .returned (.bool true) ∧ Tch [] W w'))
    (HS2 : Hid (∀ W, Tch [] y2 W → Calls Tryd.prog 17 #[.agg #[.slice (some ⟨pb, po, none⟩) n pc], .agg #[.slice (some ⟨cb, co, none⟩) n cc]] W fun e w' => e = .returned (.bool false) ∧ Tch [] W w'))
    (HS3 : Hid (∀ W, Tch [] y2 W → Calls Tryd.prog 18 #[.agg #[.slice (some ⟨cb, co, none⟩) n cc]] W fun e w' => e = .returned (.int .i64 (cm : Nat)) ∧ Tch [] W w'))
    (HS4 : Hid (∀ W, Tch [] y2 W → Calls Tryd.prog 19 #[.agg #[.slice (some ⟨cb, co, none⟩) n cc]] W fun e w' => e = .returned (.int .i64 R) ∧ Tch [] W w'))
    (HS5 : Hid (∀ W, Tch [] y2 W → Calls Tryd.prog 8 #[.agg #[.slice (some ⟨cb, co, none⟩) n cc]] W fun e w' => e = .returned (.bool false) ∧ Tch [] W w'))
    (HS6 : Hid (∀ W, Tch [] y2 W → Calls Tryd.prog 7 #[.agg #[.slice (some ⟨cb, co, none⟩) n cc]] W fun e w' => e = .returned (.int .i64 ce) ∧ Tch [] W w'))
    (HCE : Hid (decide (ce = 0) = sb))
    (h : ∀ (x6 : World) (v184 v185 v186 v187 v188 v189 v190 v191 v192 v193 v194 v195 v196 v197 v198 v199 v200 v201 v202 v203 v204 v205 v206 v207 v208 v209 v210 v211 v212 v213 v214 v215 v216 v217 v218 v219 v220 : Value), Tch [] y2 x6 → Q .normal { tmps := #[t0, t1, t2, t3, t4, t5, t6, .pointer (some ⟨b7, 0, none⟩), t8, t9, t10, .bool sb, .pointer (some ⟨b12, 0, none⟩), .int .i64 (cm : Nat), .pointer (some ⟨b14, 0, none⟩), t15, .pointer (some ⟨b16, 0, none⟩), t17, t18, t19, t20, t21, t22, t23, t24, .pointer (some ⟨b25, 0, none⟩), t26, t27, .pointer (some ⟨b28, 0, none⟩), t29, t30, t31, t32, t33, t34, t35, t36, t37, t38, t39, t40, t41, t42, t43, t44, t45, t46, t47, t48, t49, t50, t51, t52, t53, t54, t55, t56, t57, t58, t59, t60, t61, t62, t63, t64, t65, t66, t67, t68, t69, t70, t71, t72, t73, t74, t75, t76, t77, t78, t79, t80, t81, t82, t83, t84, t85, t86, t87, t88, t89, t90, t91, t92, t93, t94, t95, t96, t97, t98, t99, t100, t101, t102, t103, t104, t105, t106, t107, t108, t109, t110, t111, t112, t113, t114, t115, t116, t117, t118, t119, t120, t121, t122, t123, t124, t125, t126, t127, t128, t129, t130, t131, t132, t133, t134, t135, t136, t137, t138, t139, t140, t141, t142, t143, t144, t145, t146, t147, t148, t149, t150, t151, t152, t153, t154, t155, t156, t157, t158, t159, t160, t161, t162, t163, t164, t165, t166, t167, t168, t169, t170, t171, t172, t173, t174, t175, t176, t177, t178, t179, t180, t181, t182, t183, v184, v185, v186, v187, v188, v189, v190, v191, v192, v193, v194, v195, v196, v197, v198, v199, v200, v201, v202, v203, v204, v205, v206, v207, v208, v209, v210, v211, v212, v213, v214, v215, v216, v217, v218, v219, v220, .bool false, t222, t223, t224, t225, t226, t227, t228, t229, t230, t231, t232, t233, t234, t235, t236, t237, t238, t239, t240, t241, t242, t243, t244, t245, t246, t247, t248, t249, t250, t251, t252, t253, t254, t255, t256, t257, t258, t259, t260, t261, t262, t263, t264, t265, t266, t267], defers := ds } x6) :
    (Code.region 49 #[{ dst := some 184, op := Go.Op.load 29 (Go.Operand.tmp 12), type := 29, pos := "law.go:198", after := #[], guard := none }, { dst := some 185, op := Go.Op.load 29 (Go.Operand.tmp 28), type := 29, pos := "law.go:198", after := #[], guard := none }, { dst := some 186, op := Go.Op.call { callee := Go.Callee.value (Go.Operand.func 17), args := #[Go.Operand.tmp 184, Go.Operand.tmp 185], argTypes := #[29, 29] }, type := 4, pos := "law.go:198", after := #[{ on := 0, ground := Go.Ground.data }, { on := 1, ground := Go.Ground.data }], guard := none }, { dst := some 187, op := Go.Op.unOp Go.UnOp.not 4 (Go.Operand.tmp 186), type := 4, pos := "law.go:198", after := #[{ on := 2, ground := Go.Ground.data }], guard := none }, { dst := some 188, op := Go.Op.move (Go.Operand.tmp 187), type := 4, pos := "law.go:198", after := #[{ on := 3, ground := Go.Ground.data }, { on := 2, ground := Go.Ground.chain }], guard := none }, { dst := some 189, op := Go.Op.load 29 (Go.Operand.tmp 7), type := 29, pos := "law.go:198", after := #[{ on := 4, ground := Go.Ground.guard }], guard := some (4, false) }, { dst := some 190, op := Go.Op.load 29 (Go.Operand.tmp 12), type := 29, pos := "law.go:198", after := #[{ on := 4, ground := Go.Ground.guard }], guard := some (4, false) }, { dst := some 191, op := Go.Op.call { callee := Go.Callee.value (Go.Operand.func 17), args := #[Go.Operand.tmp 189, Go.Operand.tmp 190], argTypes := #[29, 29] }, type := 4, pos := "law.go:198", after := #[{ on := 5, ground := Go.Ground.data }, { on := 6, ground := Go.Ground.data }, { on := 4, ground := Go.Ground.chain }, { on := 4, ground := Go.Ground.guard }], guard := some (4, false) }, { dst := some 192, op := Go.Op.pick (Go.Operand.tmp 188) (Go.Operand.const (Go.Value.bool true)) (Go.Operand.tmp 191), type := 4, pos := "law.go:198", after := #[{ on := 4, ground := Go.Ground.data }, { on := 7, ground := Go.Ground.data }], guard := none }, { dst := some 193, op := Go.Op.move (Go.Operand.tmp 192), type := 4, pos := "law.go:198", after := #[{ on := 8, ground := Go.Ground.data }, { on := 7, ground := Go.Ground.chain }], guard := none }, { dst := some 194, op := Go.Op.load 29 (Go.Operand.tmp 12), type := 29, pos := "law.go:198", after := #[{ on := 9, ground := Go.Ground.guard }], guard := some (9, false) }, { dst := some 195, op := Go.Op.call { callee := Go.Callee.value (Go.Operand.func 18), args := #[Go.Operand.tmp 194], argTypes := #[29] }, type := 3, pos := "law.go:198", after := #[{ on := 10, ground := Go.Ground.data }, { on := 9, ground := Go.Ground.chain }, { on := 9, ground := Go.Ground.guard }], guard := some (9, false) }, { dst := some 196, op := Go.Op.move (Go.Operand.tmp 13), type := 3, pos := "law.go:198", after := #[{ on := 9, ground := Go.Ground.guard }], guard := some (9, false) }, { dst := some 197, op := Go.Op.binOp Go.BinOp.neq 3 (Go.Operand.tmp 195) (Go.Operand.tmp 196) 3, type := 4, pos := "law.go:198", after := #[{ on := 11, ground := Go.Ground.data }, { on := 12, ground := Go.Ground.data }, { on := 9, ground := Go.Ground.guard }], guard := some (9, false) }, { dst := some 198, op := Go.Op.pick (Go.Operand.tmp 193) (Go.Operand.const (Go.Value.bool true)) (Go.Operand.tmp 197), type := 4, pos := "law.go:198", after := #[{ on := 9, ground := Go.Ground.data }, { on := 13, ground := Go.Ground.data }], guard := none }, { dst := some 199, op := Go.Op.move (Go.Operand.tmp 198), type := 4, pos := "law.go:198", after := #[{ on := 14, ground := Go.Ground.data }, { on := 11, ground := Go.Ground.chain }], guard := none }, { dst := some 200, op := Go.Op.load 29 (Go.Operand.tmp 12), type := 29, pos := "law.go:198", after := #[{ on := 15, ground := Go.Ground.guard }], guard := some (15, false) }, { dst := some 201, op := Go.Op.call { callee := Go.Callee.value (Go.Operand.func 19), args := #[Go.Operand.tmp 200], argTypes := #[29] }, type := 3, pos := "law.go:198", after := #[{ on := 16, ground := Go.Ground.data }, { on := 15, ground := Go.Ground.chain }, { on := 15, ground := Go.Ground.guard }], guard := some (15, false) }, { dst := some 202, op := Go.Op.load 3 (Go.Operand.tmp 14), type := 3, pos := "law.go:198", after := #[{ on := 15, ground := Go.Ground.guard }], guard := some (15, false) }, { dst := some 203, op := Go.Op.binOp Go.BinOp.neq 3 (Go.Operand.tmp 201) (Go.Operand.tmp 202) 3, type := 4, pos := "law.go:198", after := #[{ on := 17, ground := Go.Ground.data }, { on := 18, ground := Go.Ground.data }, { on := 15, ground := Go.Ground.guard }], guard := some (15, false) }, { dst := some 204, op := Go.Op.pick (Go.Operand.tmp 199) (Go.Operand.const (Go.Value.bool true)) (Go.Operand.tmp 203), type := 4, pos := "law.go:198", after := #[{ on := 15, ground := Go.Ground.data }, { on := 19, ground := Go.Ground.data }], guard := none }, { dst := some 205, op := Go.Op.move (Go.Operand.tmp 204), type := 4, pos := "law.go:198", after := #[{ on := 20, ground := Go.Ground.data }, { on := 17, ground := Go.Ground.chain }], guard := none }, { dst := some 206, op := Go.Op.load 3 (Go.Operand.tmp 25), type := 3, pos := "law.go:198", after := #[{ on := 21, ground := Go.Ground.guard }], guard := some (21, false) }, { dst := some 207, op := Go.Op.load 37 (Go.Operand.tmp 16), type := 37, pos := "law.go:198", after := #[{ on := 21, ground := Go.Ground.guard }], guard := some (21, false) }, { dst := some 208, op := Go.Op.call { callee := Go.Callee.builtin Go.Builtin.len, args := #[Go.Operand.tmp 207], argTypes := #[37] }, type := 3, pos := "law.go:198", after := #[{ on := 23, ground := Go.Ground.data }, { on := 21, ground := Go.Ground.guard }], guard := some (21, false) }, { dst := some 209, op := Go.Op.binOp Go.BinOp.neq 3 (Go.Operand.tmp 206) (Go.Operand.tmp 208) 3, type := 4, pos := "law.go:198", after := #[{ on := 22, ground := Go.Ground.data }, { on := 24, ground := Go.Ground.data }, { on := 21, ground := Go.Ground.guard }], guard := some (21, false) }, { dst := some 210, op := Go.Op.pick (Go.Operand.tmp 205) (Go.Operand.const (Go.Value.bool true)) (Go.Operand.tmp 209), type := 4, pos := "law.go:198", after := #[{ on := 21, ground := Go.Ground.data }, { on := 25, ground := Go.Ground.data }], guard := none }, { dst := some 211, op := Go.Op.move (Go.Operand.tmp 210), type := 4, pos := "law.go:198", after := #[{ on := 26, ground := Go.Ground.data }, { on := 21, ground := Go.Ground.chain }], guard := none }, { dst := some 212, op := Go.Op.load 29 (Go.Operand.tmp 12), type := 29, pos := "law.go:198", after := #[{ on := 27, ground := Go.Ground.guard }], guard := some (27, false) }, { dst := some 213, op := Go.Op.call { callee := Go.Callee.value (Go.Operand.func 8), args := #[Go.Operand.tmp 212], argTypes := #[29] }, type := 4, pos := "law.go:198", after := #[{ on := 28, ground := Go.Ground.data }, { on := 27, ground := Go.Ground.chain }, { on := 27, ground := Go.Ground.guard }], guard := some (27, false) }, { dst := some 214, op := Go.Op.pick (Go.Operand.tmp 211) (Go.Operand.const (Go.Value.bool true)) (Go.Operand.tmp 213), type := 4, pos := "law.go:198", after := #[{ on := 27, ground := Go.Ground.data }, { on := 29, ground := Go.Ground.data }], guard := none }, { dst := some 215, op := Go.Op.move (Go.Operand.tmp 214), type := 4, pos := "law.go:198", after := #[{ on := 30, ground := Go.Ground.data }, { on := 29, ground := Go.Ground.chain }], guard := none }, { dst := some 216, op := Go.Op.load 29 (Go.Operand.tmp 12), type := 29, pos := "law.go:198", after := #[{ on := 31, ground := Go.Ground.guard }], guard := some (31, false) }, { dst := some 217, op := Go.Op.call { callee := Go.Callee.value (Go.Operand.func 7), args := #[Go.Operand.tmp 216], argTypes := #[29] }, type := 31, pos := "law.go:198", after := #[{ on := 32, ground := Go.Ground.data }, { on := 31, ground := Go.Ground.chain }, { on := 31, ground := Go.Ground.guard }], guard := some (31, false) }, { dst := some 218, op := Go.Op.binOp Go.BinOp.eql 31 (Go.Operand.tmp 217) (Go.Operand.const (Go.Value.int Go.IntKind.i64 0)) 31, type := 4, pos := "law.go:198", after := #[{ on := 33, ground := Go.Ground.data }, { on := 31, ground := Go.Ground.guard }], guard := some (31, false) }, { dst := some 219, op := Go.Op.move (Go.Operand.tmp 11), type := 4, pos := "law.go:198", after := #[{ on := 31, ground := Go.Ground.guard }], guard := some (31, false) }, { dst := some 220, op := Go.Op.binOp Go.BinOp.neq 4 (Go.Operand.tmp 218) (Go.Operand.tmp 219) 4, type := 4, pos := "law.go:198", after := #[{ on := 34, ground := Go.Ground.data }, { on := 35, ground := Go.Ground.data }, { on := 31, ground := Go.Ground.guard }], guard := some (31, false) }, { dst := some 221, op := Go.Op.pick (Go.Operand.tmp 215) (Go.Operand.const (Go.Value.bool true)) (Go.Operand.tmp 220), type := 4, pos := "law.go:198", after := #[{ on := 31, ground := Go.Ground.data }, { on := 36, ground := Go.Ground.data }], guard := none }] true).wp Tryd.prog Q { tmps := #[t0, t1, t2, t3, t4, t5, t6, .pointer (some ⟨b7, 0, none⟩), t8, t9, t10, .bool sb, .pointer (some ⟨b12, 0, none⟩), .int .i64 (cm : Nat), .pointer (some ⟨b14, 0, none⟩), t15, .pointer (some ⟨b16, 0, none⟩), t17, t18, t19, t20, t21, t22, t23, t24, .pointer (some ⟨b25, 0, none⟩), t26, t27, .pointer (some ⟨b28, 0, none⟩), t29, t30, t31, t32, t33, t34, t35, t36, t37, t38, t39, t40, t41, t42, t43, t44, t45, t46, t47, t48, t49, t50, t51, t52, t53, t54, t55, t56, t57, t58, t59, t60, t61, t62, t63, t64, t65, t66, t67, t68, t69, t70, t71, t72, t73, t74, t75, t76, t77, t78, t79, t80, t81, t82, t83, t84, t85, t86, t87, t88, t89, t90, t91, t92, t93, t94, t95, t96, t97, t98, t99, t100, t101, t102, t103, t104, t105, t106, t107, t108, t109, t110, t111, t112, t113, t114, t115, t116, t117, t118, t119, t120, t121, t122, t123, t124, t125, t126, t127, t128, t129, t130, t131, t132, t133, t134, t135, t136, t137, t138, t139, t140, t141, t142, t143, t144, t145, t146, t147, t148, t149, t150, t151, t152, t153, t154, t155, t156, t157, t158, t159, t160, t161, t162, t163, t164, t165, t166, t167, t168, t169, t170, t171, t172, t173, t174, t175, t176, t177, t178, t179, t180, t181, t182, t183, t184, t185, t186, t187, t188, t189, t190, t191, t192, t193, t194, t195, t196, t197, t198, t199, t200, t201, t202, t203, t204, t205, t206, t207, t208, t209, t210, t211, t212, t213, t214, t215, t216, t217, t218, t219, t220, t221, t222, t223, t224, t225, t226, t227, t228, t229, t230, t231, t232, t233, t234, t235, t236, t237, t238, t239, t240, t241, t242, t243, t244, t245, t246, t247, t248, t249, t250, t251, t252, t253, t254, t255, t256, t257, t258, t259, t260, t261, t262, t263, t264, t265, t266, t267], defers := ds } y2 := by
  have KS : Hid (∀ w', Tch [] y2 w' → Tch [] y2 w' ∧ w'.cell? ⟨b12, 0, none⟩ = some (.slice (some ⟨cb, co, none⟩) n cc) ∧ w'.cell? ⟨b28, 0, none⟩ = some (.slice (some ⟨cb2, co2, none⟩) n cc2) ∧ w'.cell? ⟨b7, 0, none⟩ = some (.slice (some ⟨pb, po, none⟩) n pc) ∧ w'.cell? ⟨b14, 0, none⟩ = some (.int .i64 R) ∧ w'.cell? ⟨b25, 0, none⟩ = some (.int .i64 (il : Nat)) ∧ w'.cell? ⟨b16, 0, none⟩ = some (.slice xa il xc)) := fun w' t => ⟨t, tch_val t e12 (by simp), tch_val t e28 (by simp), tch_val t e7 (by simp), tch_val t e14 (by simp), tch_val t e25 (by simp), tch_val t e16 (by simp)⟩
  refine wp_region_noPanic ?_
  refine wp_region_held_drew (S := fun w' => Tch [] y2 w' ∧ w'.cell? ⟨b12, 0, none⟩ = some (.slice (some ⟨cb, co, none⟩) n cc) ∧ w'.cell? ⟨b28, 0, none⟩ = some (.slice (some ⟨cb2, co2, none⟩) n cc2) ∧ w'.cell? ⟨b7, 0, none⟩ = some (.slice (some ⟨pb, po, none⟩) n pc) ∧ w'.cell? ⟨b14, 0, none⟩ = some (.int .i64 R) ∧ w'.cell? ⟨b25, 0, none⟩ = some (.int .i64 (il : Nat)) ∧ w'.cell? ⟨b16, 0, none⟩ = some (.slice xa il xc)) hmo (KS.out _ (Tch.refl _ _).drew) (fun hHeld => ?_)
  have T0 := hid (show Tch [] y2 y2.drew from (Tch.refl _ _).drew)
  generalize y2.drew = x0 at *
  refine wpAnyH_take (i := 0) (oi := { dst := some 184, op := Go.Op.load 29 (Go.Operand.tmp 12), type := 29, pos := "law.go:198", after := #[], guard := none }) (v := ?_) rfl (by kernel_rfl) (by kernel_rfl) (by kernel_rfl) (fun _ _ _ h => h) (Or.inl ⟨by rfl, ?_⟩) (by assumption) ?_
  rotate_left
  (intro w hSw; (try dsimp only at hSw); go_simp; try (with_reducible rfl))
  try simp only [Act.put, List.setIfInBounds_toArray, List.set_cons_zero, List.set_cons_succ]
  refine wpAnyH_take (i := 1) (oi := { dst := some 185, op := Go.Op.load 29 (Go.Operand.tmp 28), type := 29, pos := "law.go:198", after := #[], guard := none }) (v := ?_) rfl (by kernel_rfl) (by kernel_rfl) (by kernel_rfl) (fun _ _ _ h => h) (Or.inl ⟨by rfl, ?_⟩) (by assumption) ?_
  rotate_left
  (intro w hSw; (try dsimp only at hSw); go_simp; try (with_reducible rfl))
  try simp only [Act.put, List.setIfInBounds_toArray, List.set_cons_zero, List.set_cons_succ]
  refine wpAnyH_ready (rs := [2]) (by kernel_rfl) (by simp) (AllReadyH.cons (o := { dst := some 186, op := Go.Op.call { callee := Go.Callee.value (Go.Operand.func 17), args := #[Go.Operand.tmp 184, Go.Operand.tmp 185], argTypes := #[29, 29] }, type := 4, pos := "law.go:198", after := #[{ on := 0, ground := Go.Ground.data }, { on := 1, ground := Go.Ground.data }], guard := none }) (by kernel_rfl) (fun Kq hK => ?_) AllReadyH.nil)
  go_simp
  go_at_call 17
  refine (HS1.out _ hHeld.1).mono ?_
  rintro e x1 ⟨rfl, t1⟩
  refine hK.out _ _ (KS.out _ (hHeld.1.trans t1)) (fun hH2 => ?_)
  clear hHeld hK Kq
  have hHeld := hH2
  clear hH2
  try simp only [Act.put, List.setIfInBounds_toArray, List.set_cons_zero, List.set_cons_succ]
  clear t1
  refine wpAnyH_take (i := 3) (oi := { dst := some 187, op := Go.Op.unOp Go.UnOp.not 4 (Go.Operand.tmp 186), type := 4, pos := "law.go:198", after := #[{ on := 2, ground := Go.Ground.data }], guard := none }) (v := ?_) rfl (by kernel_rfl) (by kernel_rfl) (by kernel_rfl) (fun _ _ _ h => h) (Or.inl ⟨by rfl, ?_⟩) (by assumption) ?_
  rotate_left
  (intro w hSw; (try dsimp only at hSw); go_simp; try (with_reducible rfl))
  try simp only [Act.put, List.setIfInBounds_toArray, List.set_cons_zero, List.set_cons_succ]
  refine wpAnyH_take (i := 4) (oi := { dst := some 188, op := Go.Op.move (Go.Operand.tmp 187), type := 4, pos := "law.go:198", after := #[{ on := 3, ground := Go.Ground.data }, { on := 2, ground := Go.Ground.chain }], guard := none }) (v := ?_) rfl (by kernel_rfl) (by kernel_rfl) (by kernel_rfl) (fun _ _ _ h => h) (Or.inl ⟨by rfl, ?_⟩) (by assumption) ?_
  rotate_left
  (intro w hSw; (try dsimp only at hSw); go_simp; try (with_reducible rfl))
  try simp only [Act.put, List.setIfInBounds_toArray, List.set_cons_zero, List.set_cons_succ]
  refine wpAnyH_take (i := 5) (oi := { dst := some 189, op := Go.Op.load 29 (Go.Operand.tmp 7), type := 29, pos := "law.go:198", after := #[{ on := 4, ground := Go.Ground.guard }], guard := some (4, false) }) (v := ?_) rfl (by kernel_rfl) (by kernel_rfl) (by kernel_rfl) (fun _ _ _ h => h) (Or.inl ⟨by rfl, ?_⟩) (by assumption) ?_
  rotate_left
  (intro w hSw; (try dsimp only at hSw); go_simp; try (with_reducible rfl))
  try simp only [Act.put, List.setIfInBounds_toArray, List.set_cons_zero, List.set_cons_succ]
  refine wpAnyH_take (i := 6) (oi := { dst := some 190, op := Go.Op.load 29 (Go.Operand.tmp 12), type := 29, pos := "law.go:198", after := #[{ on := 4, ground := Go.Ground.guard }], guard := some (4, false) }) (v := ?_) rfl (by kernel_rfl) (by kernel_rfl) (by kernel_rfl) (fun _ _ _ h => h) (Or.inl ⟨by rfl, ?_⟩) (by assumption) ?_
  rotate_left
  (intro w hSw; (try dsimp only at hSw); go_simp; try (with_reducible rfl))
  try simp only [Act.put, List.setIfInBounds_toArray, List.set_cons_zero, List.set_cons_succ]
  refine wpAnyH_ready (rs := [7]) (by kernel_rfl) (by simp) (AllReadyH.cons (o := { dst := some 191, op := Go.Op.call { callee := Go.Callee.value (Go.Operand.func 17), args := #[Go.Operand.tmp 189, Go.Operand.tmp 190], argTypes := #[29, 29] }, type := 4, pos := "law.go:198", after := #[{ on := 5, ground := Go.Ground.data }, { on := 6, ground := Go.Ground.data }, { on := 4, ground := Go.Ground.chain }, { on := 4, ground := Go.Ground.guard }], guard := some (4, false) }) (by kernel_rfl) (fun Kq hK => ?_) AllReadyH.nil)
  go_simp
  go_at_call 17
  refine (HS2.out _ hHeld.1).mono ?_
  rintro e x2 ⟨rfl, t1⟩
  refine hK.out _ _ (KS.out _ (hHeld.1.trans t1)) (fun hH2 => ?_)
  clear hHeld hK Kq
  have hHeld := hH2
  clear hH2
  try simp only [Act.put, List.setIfInBounds_toArray, List.set_cons_zero, List.set_cons_succ]
  clear t1
  refine wpAnyH_take (i := 8) (oi := { dst := some 192, op := Go.Op.pick (Go.Operand.tmp 188) (Go.Operand.const (Go.Value.bool true)) (Go.Operand.tmp 191), type := 4, pos := "law.go:198", after := #[{ on := 4, ground := Go.Ground.data }, { on := 7, ground := Go.Ground.data }], guard := none }) (v := ?_) rfl (by kernel_rfl) (by kernel_rfl) (by kernel_rfl) (fun _ _ _ h => h) (Or.inl ⟨by rfl, ?_⟩) (by assumption) ?_
  rotate_left
  (intro w hSw; (try dsimp only at hSw); go_simp; try (with_reducible rfl))
  try simp only [Act.put, List.setIfInBounds_toArray, List.set_cons_zero, List.set_cons_succ]
  refine wpAnyH_take (i := 9) (oi := { dst := some 193, op := Go.Op.move (Go.Operand.tmp 192), type := 4, pos := "law.go:198", after := #[{ on := 8, ground := Go.Ground.data }, { on := 7, ground := Go.Ground.chain }], guard := none }) (v := ?_) rfl (by kernel_rfl) (by kernel_rfl) (by kernel_rfl) (fun _ _ _ h => h) (Or.inl ⟨by rfl, ?_⟩) (by assumption) ?_
  rotate_left
  (intro w hSw; (try dsimp only at hSw); go_simp; try (with_reducible rfl))
  try simp only [Act.put, List.setIfInBounds_toArray, List.set_cons_zero, List.set_cons_succ]
  refine wpAnyH_take (i := 10) (oi := { dst := some 194, op := Go.Op.load 29 (Go.Operand.tmp 12), type := 29, pos := "law.go:198", after := #[{ on := 9, ground := Go.Ground.guard }], guard := some (9, false) }) (v := ?_) rfl (by kernel_rfl) (by kernel_rfl) (by kernel_rfl) (fun _ _ _ h => h) (Or.inl ⟨by rfl, ?_⟩) (by assumption) ?_
  rotate_left
  (intro w hSw; (try dsimp only at hSw); go_simp; try (with_reducible rfl))
  try simp only [Act.put, List.setIfInBounds_toArray, List.set_cons_zero, List.set_cons_succ]
  refine wpAnyH_take (i := 12) (oi := { dst := some 196, op := Go.Op.move (Go.Operand.tmp 13), type := 3, pos := "law.go:198", after := #[{ on := 9, ground := Go.Ground.guard }], guard := some (9, false) }) (v := ?_) rfl (by kernel_rfl) (by kernel_rfl) (by kernel_rfl) (fun _ _ _ h => h) (Or.inl ⟨by rfl, ?_⟩) (by assumption) ?_
  rotate_left
  (intro w hSw; (try dsimp only at hSw); go_simp; try (with_reducible rfl))
  try simp only [Act.put, List.setIfInBounds_toArray, List.set_cons_zero, List.set_cons_succ]
  refine wpAnyH_ready (rs := [11]) (by kernel_rfl) (by simp) (AllReadyH.cons (o := { dst := some 195, op := Go.Op.call { callee := Go.Callee.value (Go.Operand.func 18), args := #[Go.Operand.tmp 194], argTypes := #[29] }, type := 3, pos := "law.go:198", after := #[{ on := 10, ground := Go.Ground.data }, { on := 9, ground := Go.Ground.chain }, { on := 9, ground := Go.Ground.guard }], guard := some (9, false) }) (by kernel_rfl) (fun Kq hK => ?_) AllReadyH.nil)
  go_simp
  go_at_call 18
  refine (HS3.out _ hHeld.1).mono ?_
  rintro e x3 ⟨rfl, t1⟩
  refine hK.out _ _ (KS.out _ (hHeld.1.trans t1)) (fun hH2 => ?_)
  clear hHeld hK Kq
  have hHeld := hH2
  clear hH2
  try simp only [Act.put, List.setIfInBounds_toArray, List.set_cons_zero, List.set_cons_succ]
  clear t1
  refine wpAnyH_take (i := 13) (oi := { dst := some 197, op := Go.Op.binOp Go.BinOp.neq 3 (Go.Operand.tmp 195) (Go.Operand.tmp 196) 3, type := 4, pos := "law.go:198", after := #[{ on := 11, ground := Go.Ground.data }, { on := 12, ground := Go.Ground.data }, { on := 9, ground := Go.Ground.guard }], guard := some (9, false) }) (v := ?_) rfl (by kernel_rfl) (by kernel_rfl) (by kernel_rfl) (fun _ _ _ h => h) (Or.inl ⟨by rfl, ?_⟩) (by assumption) ?_
  rotate_left
  (intro w hSw; (try dsimp only at hSw); go_simp; try (with_reducible rfl))
  try simp only [Act.put, List.setIfInBounds_toArray, List.set_cons_zero, List.set_cons_succ]
  refine wpAnyH_take (i := 14) (oi := { dst := some 198, op := Go.Op.pick (Go.Operand.tmp 193) (Go.Operand.const (Go.Value.bool true)) (Go.Operand.tmp 197), type := 4, pos := "law.go:198", after := #[{ on := 9, ground := Go.Ground.data }, { on := 13, ground := Go.Ground.data }], guard := none }) (v := ?_) rfl (by kernel_rfl) (by kernel_rfl) (by kernel_rfl) (fun _ _ _ h => h) (Or.inl ⟨by rfl, ?_⟩) (by assumption) ?_
  rotate_left
  (intro w hSw; (try dsimp only at hSw); go_simp; try (with_reducible rfl))
  try simp only [Act.put, List.setIfInBounds_toArray, List.set_cons_zero, List.set_cons_succ]
  refine wpAnyH_take (i := 15) (oi := { dst := some 199, op := Go.Op.move (Go.Operand.tmp 198), type := 4, pos := "law.go:198", after := #[{ on := 14, ground := Go.Ground.data }, { on := 11, ground := Go.Ground.chain }], guard := none }) (v := ?_) rfl (by kernel_rfl) (by kernel_rfl) (by kernel_rfl) (fun _ _ _ h => h) (Or.inl ⟨by rfl, ?_⟩) (by assumption) ?_
  rotate_left
  (intro w hSw; (try dsimp only at hSw); go_simp; try (with_reducible rfl))
  try simp only [Act.put, List.setIfInBounds_toArray, List.set_cons_zero, List.set_cons_succ]
  refine wpAnyH_take (i := 16) (oi := { dst := some 200, op := Go.Op.load 29 (Go.Operand.tmp 12), type := 29, pos := "law.go:198", after := #[{ on := 15, ground := Go.Ground.guard }], guard := some (15, false) }) (v := ?_) rfl (by kernel_rfl) (by kernel_rfl) (by kernel_rfl) (fun _ _ _ h => h) (Or.inl ⟨by rfl, ?_⟩) (by assumption) ?_
  rotate_left
  (intro w hSw; (try dsimp only at hSw); go_simp; try (with_reducible rfl))
  try simp only [Act.put, List.setIfInBounds_toArray, List.set_cons_zero, List.set_cons_succ]
  refine wpAnyH_take (i := 18) (oi := { dst := some 202, op := Go.Op.load 3 (Go.Operand.tmp 14), type := 3, pos := "law.go:198", after := #[{ on := 15, ground := Go.Ground.guard }], guard := some (15, false) }) (v := ?_) rfl (by kernel_rfl) (by kernel_rfl) (by kernel_rfl) (fun _ _ _ h => h) (Or.inl ⟨by rfl, ?_⟩) (by assumption) ?_
  rotate_left
  (intro w hSw; (try dsimp only at hSw); go_simp; try (with_reducible rfl))
  try simp only [Act.put, List.setIfInBounds_toArray, List.set_cons_zero, List.set_cons_succ]
  refine wpAnyH_ready (rs := [17]) (by kernel_rfl) (by simp) (AllReadyH.cons (o := { dst := some 201, op := Go.Op.call { callee := Go.Callee.value (Go.Operand.func 19), args := #[Go.Operand.tmp 200], argTypes := #[29] }, type := 3, pos := "law.go:198", after := #[{ on := 16, ground := Go.Ground.data }, { on := 15, ground := Go.Ground.chain }, { on := 15, ground := Go.Ground.guard }], guard := some (15, false) }) (by kernel_rfl) (fun Kq hK => ?_) AllReadyH.nil)
  go_simp
  go_at_call 19
  refine (HS4.out _ hHeld.1).mono ?_
  rintro e x4 ⟨rfl, t1⟩
  refine hK.out _ _ (KS.out _ (hHeld.1.trans t1)) (fun hH2 => ?_)
  clear hHeld hK Kq
  have hHeld := hH2
  clear hH2
  try simp only [Act.put, List.setIfInBounds_toArray, List.set_cons_zero, List.set_cons_succ]
  clear t1
  refine wpAnyH_take (i := 19) (oi := { dst := some 203, op := Go.Op.binOp Go.BinOp.neq 3 (Go.Operand.tmp 201) (Go.Operand.tmp 202) 3, type := 4, pos := "law.go:198", after := #[{ on := 17, ground := Go.Ground.data }, { on := 18, ground := Go.Ground.data }, { on := 15, ground := Go.Ground.guard }], guard := some (15, false) }) (v := ?_) rfl (by kernel_rfl) (by kernel_rfl) (by kernel_rfl) (fun _ _ _ h => h) (Or.inl ⟨by rfl, ?_⟩) (by assumption) ?_
  rotate_left
  (intro w hSw; (try dsimp only at hSw); go_simp; try (with_reducible rfl))
  try simp only [Act.put, List.setIfInBounds_toArray, List.set_cons_zero, List.set_cons_succ]
  refine wpAnyH_take (i := 20) (oi := { dst := some 204, op := Go.Op.pick (Go.Operand.tmp 199) (Go.Operand.const (Go.Value.bool true)) (Go.Operand.tmp 203), type := 4, pos := "law.go:198", after := #[{ on := 15, ground := Go.Ground.data }, { on := 19, ground := Go.Ground.data }], guard := none }) (v := ?_) rfl (by kernel_rfl) (by kernel_rfl) (by kernel_rfl) (fun _ _ _ h => h) (Or.inl ⟨by rfl, ?_⟩) (by assumption) ?_
  rotate_left
  (intro w hSw; (try dsimp only at hSw); go_simp; try (with_reducible rfl))
  try simp only [Act.put, List.setIfInBounds_toArray, List.set_cons_zero, List.set_cons_succ]
  refine wpAnyH_take (i := 21) (oi := { dst := some 205, op := Go.Op.move (Go.Operand.tmp 204), type := 4, pos := "law.go:198", after := #[{ on := 20, ground := Go.Ground.data }, { on := 17, ground := Go.Ground.chain }], guard := none }) (v := ?_) rfl (by kernel_rfl) (by kernel_rfl) (by kernel_rfl) (fun _ _ _ h => h) (Or.inl ⟨by rfl, ?_⟩) (by assumption) ?_
  rotate_left
  (intro w hSw; (try dsimp only at hSw); go_simp; try (with_reducible rfl))
  try simp only [Act.put, List.setIfInBounds_toArray, List.set_cons_zero, List.set_cons_succ]
  refine wpAnyH_take (i := 22) (oi := { dst := some 206, op := Go.Op.load 3 (Go.Operand.tmp 25), type := 3, pos := "law.go:198", after := #[{ on := 21, ground := Go.Ground.guard }], guard := some (21, false) }) (v := ?_) rfl (by kernel_rfl) (by kernel_rfl) (by kernel_rfl) (fun _ _ _ h => h) (Or.inl ⟨by rfl, ?_⟩) (by assumption) ?_
  rotate_left
  (intro w hSw; (try dsimp only at hSw); go_simp; try (with_reducible rfl))
  try simp only [Act.put, List.setIfInBounds_toArray, List.set_cons_zero, List.set_cons_succ]
  refine wpAnyH_take (i := 23) (oi := { dst := some 207, op := Go.Op.load 37 (Go.Operand.tmp 16), type := 37, pos := "law.go:198", after := #[{ on := 21, ground := Go.Ground.guard }], guard := some (21, false) }) (v := ?_) rfl (by kernel_rfl) (by kernel_rfl) (by kernel_rfl) (fun _ _ _ h => h) (Or.inl ⟨by rfl, ?_⟩) (by assumption) ?_
  rotate_left
  (intro w hSw; (try dsimp only at hSw); go_simp; try (with_reducible rfl))
  try simp only [Act.put, List.setIfInBounds_toArray, List.set_cons_zero, List.set_cons_succ]
  refine wpAnyH_take (i := 24) (oi := { dst := some 208, op := Go.Op.call { callee := Go.Callee.builtin Go.Builtin.len, args := #[Go.Operand.tmp 207], argTypes := #[37] }, type := 3, pos := "law.go:198", after := #[{ on := 23, ground := Go.Ground.data }, { on := 21, ground := Go.Ground.guard }], guard := some (21, false) }) (v := ?_) rfl (by kernel_rfl) (by kernel_rfl) (by kernel_rfl) (fun _ _ _ h => h) (Or.inl ⟨by rfl, ?_⟩) (by assumption) ?_
  rotate_left
  (intro w hSw; (try dsimp only at hSw); go_simp; try (with_reducible rfl))
  try simp only [Act.put, List.setIfInBounds_toArray, List.set_cons_zero, List.set_cons_succ]
  refine wpAnyH_take (i := 25) (oi := { dst := some 209, op := Go.Op.binOp Go.BinOp.neq 3 (Go.Operand.tmp 206) (Go.Operand.tmp 208) 3, type := 4, pos := "law.go:198", after := #[{ on := 22, ground := Go.Ground.data }, { on := 24, ground := Go.Ground.data }, { on := 21, ground := Go.Ground.guard }], guard := some (21, false) }) (v := ?_) rfl (by kernel_rfl) (by kernel_rfl) (by kernel_rfl) (fun _ _ _ h => h) (Or.inl ⟨by rfl, ?_⟩) (by assumption) ?_
  rotate_left
  (intro w hSw; (try dsimp only at hSw); go_simp; try (with_reducible rfl))
  try simp only [Act.put, List.setIfInBounds_toArray, List.set_cons_zero, List.set_cons_succ]
  refine wpAnyH_take (i := 26) (oi := { dst := some 210, op := Go.Op.pick (Go.Operand.tmp 205) (Go.Operand.const (Go.Value.bool true)) (Go.Operand.tmp 209), type := 4, pos := "law.go:198", after := #[{ on := 21, ground := Go.Ground.data }, { on := 25, ground := Go.Ground.data }], guard := none }) (v := ?_) rfl (by kernel_rfl) (by kernel_rfl) (by kernel_rfl) (fun _ _ _ h => h) (Or.inl ⟨by rfl, ?_⟩) (by assumption) ?_
  rotate_left
  (intro w hSw; (try dsimp only at hSw); go_simp; try (with_reducible rfl))
  try simp only [Act.put, List.setIfInBounds_toArray, List.set_cons_zero, List.set_cons_succ]
  refine wpAnyH_take (i := 27) (oi := { dst := some 211, op := Go.Op.move (Go.Operand.tmp 210), type := 4, pos := "law.go:198", after := #[{ on := 26, ground := Go.Ground.data }, { on := 21, ground := Go.Ground.chain }], guard := none }) (v := ?_) rfl (by kernel_rfl) (by kernel_rfl) (by kernel_rfl) (fun _ _ _ h => h) (Or.inl ⟨by rfl, ?_⟩) (by assumption) ?_
  rotate_left
  (intro w hSw; (try dsimp only at hSw); go_simp; try (with_reducible rfl))
  try simp only [Act.put, List.setIfInBounds_toArray, List.set_cons_zero, List.set_cons_succ]
  refine wpAnyH_take (i := 28) (oi := { dst := some 212, op := Go.Op.load 29 (Go.Operand.tmp 12), type := 29, pos := "law.go:198", after := #[{ on := 27, ground := Go.Ground.guard }], guard := some (27, false) }) (v := ?_) rfl (by kernel_rfl) (by kernel_rfl) (by kernel_rfl) (fun _ _ _ h => h) (Or.inl ⟨by rfl, ?_⟩) (by assumption) ?_
  rotate_left
  (intro w hSw; (try dsimp only at hSw); go_simp; try (with_reducible rfl))
  try simp only [Act.put, List.setIfInBounds_toArray, List.set_cons_zero, List.set_cons_succ]
  refine wpAnyH_ready (rs := [29]) (by kernel_rfl) (by simp) (AllReadyH.cons (o := { dst := some 213, op := Go.Op.call { callee := Go.Callee.value (Go.Operand.func 8), args := #[Go.Operand.tmp 212], argTypes := #[29] }, type := 4, pos := "law.go:198", after := #[{ on := 28, ground := Go.Ground.data }, { on := 27, ground := Go.Ground.chain }, { on := 27, ground := Go.Ground.guard }], guard := some (27, false) }) (by kernel_rfl) (fun Kq hK => ?_) AllReadyH.nil)
  go_simp
  go_at_call 8
  refine (HS5.out _ hHeld.1).mono ?_
  rintro e x5 ⟨rfl, t1⟩
  refine hK.out _ _ (KS.out _ (hHeld.1.trans t1)) (fun hH2 => ?_)
  clear hHeld hK Kq
  have hHeld := hH2
  clear hH2
  try simp only [Act.put, List.setIfInBounds_toArray, List.set_cons_zero, List.set_cons_succ]
  clear t1
  refine wpAnyH_take (i := 30) (oi := { dst := some 214, op := Go.Op.pick (Go.Operand.tmp 211) (Go.Operand.const (Go.Value.bool true)) (Go.Operand.tmp 213), type := 4, pos := "law.go:198", after := #[{ on := 27, ground := Go.Ground.data }, { on := 29, ground := Go.Ground.data }], guard := none }) (v := ?_) rfl (by kernel_rfl) (by kernel_rfl) (by kernel_rfl) (fun _ _ _ h => h) (Or.inl ⟨by rfl, ?_⟩) (by assumption) ?_
  rotate_left
  (intro w hSw; (try dsimp only at hSw); go_simp; try (with_reducible rfl))
  try simp only [Act.put, List.setIfInBounds_toArray, List.set_cons_zero, List.set_cons_succ]
  refine wpAnyH_take (i := 31) (oi := { dst := some 215, op := Go.Op.move (Go.Operand.tmp 214), type := 4, pos := "law.go:198", after := #[{ on := 30, ground := Go.Ground.data }, { on := 29, ground := Go.Ground.chain }], guard := none }) (v := ?_) rfl (by kernel_rfl) (by kernel_rfl) (by kernel_rfl) (fun _ _ _ h => h) (Or.inl ⟨by rfl, ?_⟩) (by assumption) ?_
  rotate_left
  (intro w hSw; (try dsimp only at hSw); go_simp; try (with_reducible rfl))
  try simp only [Act.put, List.setIfInBounds_toArray, List.set_cons_zero, List.set_cons_succ]
  refine wpAnyH_take (i := 32) (oi := { dst := some 216, op := Go.Op.load 29 (Go.Operand.tmp 12), type := 29, pos := "law.go:198", after := #[{ on := 31, ground := Go.Ground.guard }], guard := some (31, false) }) (v := ?_) rfl (by kernel_rfl) (by kernel_rfl) (by kernel_rfl) (fun _ _ _ h => h) (Or.inl ⟨by rfl, ?_⟩) (by assumption) ?_
  rotate_left
  (intro w hSw; (try dsimp only at hSw); go_simp; try (with_reducible rfl))
  try simp only [Act.put, List.setIfInBounds_toArray, List.set_cons_zero, List.set_cons_succ]
  refine wpAnyH_take (i := 35) (oi := { dst := some 219, op := Go.Op.move (Go.Operand.tmp 11), type := 4, pos := "law.go:198", after := #[{ on := 31, ground := Go.Ground.guard }], guard := some (31, false) }) (v := ?_) rfl (by kernel_rfl) (by kernel_rfl) (by kernel_rfl) (fun _ _ _ h => h) (Or.inl ⟨by rfl, ?_⟩) (by assumption) ?_
  rotate_left
  (intro w hSw; (try dsimp only at hSw); go_simp; try (with_reducible rfl))
  try simp only [Act.put, List.setIfInBounds_toArray, List.set_cons_zero, List.set_cons_succ]
  refine wpAnyH_ready (rs := [33]) (by kernel_rfl) (by simp) (AllReadyH.cons (o := { dst := some 217, op := Go.Op.call { callee := Go.Callee.value (Go.Operand.func 7), args := #[Go.Operand.tmp 216], argTypes := #[29] }, type := 31, pos := "law.go:198", after := #[{ on := 32, ground := Go.Ground.data }, { on := 31, ground := Go.Ground.chain }, { on := 31, ground := Go.Ground.guard }], guard := some (31, false) }) (by kernel_rfl) (fun Kq hK => ?_) AllReadyH.nil)
  go_simp
  go_at_call 7
  refine (HS6.out _ hHeld.1).mono ?_
  rintro e x6 ⟨rfl, t1⟩
  refine hK.out _ _ (KS.out _ (hHeld.1.trans t1)) (fun hH2 => ?_)
  clear hHeld hK Kq
  have hHeld := hH2
  clear hH2
  try simp only [Act.put, List.setIfInBounds_toArray, List.set_cons_zero, List.set_cons_succ]
  clear t1
  refine wpAnyH_take (i := 34) (oi := { dst := some 218, op := Go.Op.binOp Go.BinOp.eql 31 (Go.Operand.tmp 217) (Go.Operand.const (Go.Value.int Go.IntKind.i64 0)) 31, type := 4, pos := "law.go:198", after := #[{ on := 33, ground := Go.Ground.data }, { on := 31, ground := Go.Ground.guard }], guard := some (31, false) }) (v := .bool sb) rfl (by kernel_rfl) (by kernel_rfl) (by kernel_rfl) (fun _ _ _ h => h) (Or.inl ⟨by rfl, ?_⟩) (by assumption) ?_
  · intro w hSw
    (try dsimp only at hSw)
    go_simp
    first | (rw [HCE.out]; done) | exact HCE.out | simp [HCE.out]
  try simp only [Act.put, List.setIfInBounds_toArray, List.set_cons_zero, List.set_cons_succ]
  refine wpAnyH_take (i := 36) (oi := { dst := some 220, op := Go.Op.binOp Go.BinOp.neq 4 (Go.Operand.tmp 218) (Go.Operand.tmp 219) 4, type := 4, pos := "law.go:198", after := #[{ on := 34, ground := Go.Ground.data }, { on := 35, ground := Go.Ground.data }, { on := 31, ground := Go.Ground.guard }], guard := some (31, false) }) (v := .bool false) rfl (by kernel_rfl) (by kernel_rfl) (by kernel_rfl) (fun _ _ _ h => h) (Or.inl ⟨by rfl, ?_⟩) (by assumption) ?_
  · intro w hSw
    (try dsimp only at hSw)
    (first | (go_simp; done) | (go_simp; simp))
  try simp only [Act.put, List.setIfInBounds_toArray, List.set_cons_zero, List.set_cons_succ]
  refine wpAnyH_take (i := 37) (oi := { dst := some 221, op := Go.Op.pick (Go.Operand.tmp 215) (Go.Operand.const (Go.Value.bool true)) (Go.Operand.tmp 220), type := 4, pos := "law.go:198", after := #[{ on := 31, ground := Go.Ground.data }, { on := 36, ground := Go.Ground.data }], guard := none }) (v := ?_) rfl (by kernel_rfl) (by kernel_rfl) (by kernel_rfl) (fun _ _ _ h => h) (Or.inl ⟨by rfl, ?_⟩) (by assumption) ?_
  rotate_left
  (intro w hSw; (try dsimp only at hSw); go_simp; try (with_reducible rfl))
  try simp only [Act.put, List.setIfInBounds_toArray, List.set_cons_zero, List.set_cons_succ]
  refine wpAnyH_done (by kernel_rfl) (NoPanic.normal ?_) _
  exact h _ _ _ _ _ _ _ _ _ _ _ _ _ _ _ _ _ _ _ _ _ _ _ _ _ _ _ _ _ _ _ _ _ _ _ _ _ _ hHeld.1
end Go.Proofs.YtjkokokddijpkaaDoor
