/-
  One region of EventBounds: is the verb one.
-/
import Derived.Test.YtofjadgnkpcaeaaNamed
namespace Go.Proofs.Ytofjadgnkpcaeaa
open Go.Shelf Go.RowKit Go.Deep
set_option linter.unusedVariables false
set_option linter.unusedSimpArgs false
set_option maxRecDepth 1000000
theorem hide {p : Prop} (h : p) : Hid p := h
set_option maxHeartbeats 4000000 in
theorem region11 (t0 t1 t2 t4 t5 t6 t7 t8 t9 t10 t11 t12 t13 t14 t15 t16 t17 t18 t19 t20 t21 t22 t23 t24 t25 t26 t27 t28 t29 t30 t31 t32 t33 t34 t35 t36 t37 t38 t39 t40 t41 t42 t43 t44 t45 t46 t47 t48 t49 t50 t51 t52 t53 t54 t55 t56 t57 t58 t59 t60 t61 t62 t63 t64 t65 t66 t67 t68 t69 t70 t71 t72 t73 t74 t75 t76 t77 t78 t79 t80 t81 t82 t83 t84 t85 t86 t87 t88 t89 t90 t91 t92 t93 t94 t95 t96 t97 t98 t99 t100 t101 t102 t103 t104 t105 t106 t107 t108 t109 t110 t111 t112 t113 t114 t115 t116 t117 t118 t119 t120 t121 t122 : Value) (v : ByteArray) (K : Act → World → Prop) (Q : Exit → Act → World → Prop) (w : World)
    (h : ∀ u45 u46 u47 u48 u49 u50 u51 u52 u53 u54 u55 u56 u57 u58 u59 u60 u61 u62 u63 u64 u65 u66 : Value, K ⟨#[t0, t1, t2, Value.string v, t4, t5, t6, t7, t8, t9, t10, t11, Value.bool (verbB v), t13, t14, t15, t16, t17, t18, t19, t20, t21, t22, t23, t24, t25, t26, t27, t28, t29, t30, t31, t32, t33, t34, t35, t36, t37, t38, t39, t40, t41, t42, t43, t44, u45, u46, u47, u48, u49, u50, u51, u52, u53, u54, u55, u56, u57, u58, u59, u60, u61, u62, u63, u64, u65, u66, t67, t68, t69, t70, t71, t72, t73, t74, t75, t76, t77, t78, t79, t80, t81, t82, t83, t84, t85, t86, t87, t88, t89, t90, t91, t92, t93, t94, t95, t96, t97, t98, t99, t100, t101, t102, t103, t104, t105, t106, t107, t108, t109, t110, t111, t112, t113, t114, t115, t116, t117, t118, t119, t120, t121, t122], []⟩ w) :
    Code.wp Try.prog (Code.region 11 #[{ dst := some 45, op := Op.move (Operand.tmp 3), type := 9, pos := "more.go:21", after := #[], guard := none }, { dst := some 46, op := Op.binOp BinOp.eql 9 (Operand.tmp 45) (Operand.const (Value.string { data := #[115, 101, 116] })) 9, type := 4, pos := "more.go:21", after := #[{ on := 0, ground := Ground.data }], guard := none }, { dst := some 47, op := Op.move (Operand.tmp 46), type := 4, pos := "more.go:21", after := #[{ on := 1, ground := Ground.data }], guard := none }, { dst := some 48, op := Op.move (Operand.tmp 3), type := 9, pos := "more.go:21", after := #[{ on := 2, ground := Ground.guard }], guard := some (2, false) }, { dst := some 49, op := Op.binOp BinOp.eql 9 (Operand.tmp 48) (Operand.const (Value.string { data := #[97, 100, 100] })) 9, type := 4, pos := "more.go:21", after := #[{ on := 3, ground := Ground.data }, { on := 2, ground := Ground.guard }], guard := some (2, false) }, { dst := some 50, op := Op.pick (Operand.tmp 47) (Operand.const (Value.bool true)) (Operand.tmp 49), type := 4, pos := "more.go:21", after := #[{ on := 2, ground := Ground.data }, { on := 4, ground := Ground.data }], guard := none }, { dst := some 51, op := Op.move (Operand.tmp 50), type := 4, pos := "more.go:21", after := #[{ on := 5, ground := Ground.data }, { on := 2, ground := Ground.chain }], guard := none }, { dst := some 52, op := Op.move (Operand.tmp 3), type := 9, pos := "more.go:21", after := #[{ on := 6, ground := Ground.guard }], guard := some (6, false) }, { dst := some 53, op := Op.binOp BinOp.eql 9 (Operand.tmp 52) (Operand.const (Value.string { data := #[114, 101, 112, 108, 97, 99, 101] })) 9, type := 4, pos := "more.go:21", after := #[{ on := 7, ground := Ground.data }, { on := 6, ground := Ground.guard }], guard := some (6, false) }, { dst := some 54, op := Op.pick (Operand.tmp 51) (Operand.const (Value.bool true)) (Operand.tmp 53), type := 4, pos := "more.go:21", after := #[{ on := 6, ground := Ground.data }, { on := 8, ground := Ground.data }], guard := none }, { dst := some 55, op := Op.move (Operand.tmp 54), type := 4, pos := "more.go:21", after := #[{ on := 9, ground := Ground.data }, { on := 6, ground := Ground.chain }], guard := none }, { dst := some 56, op := Op.move (Operand.tmp 3), type := 9, pos := "more.go:21", after := #[{ on := 10, ground := Ground.guard }], guard := some (10, false) }, { dst := some 57, op := Op.binOp BinOp.eql 9 (Operand.tmp 56) (Operand.const (Value.string { data := #[97, 112, 112, 101, 110, 100] })) 9, type := 4, pos := "more.go:21", after := #[{ on := 11, ground := Ground.data }, { on := 10, ground := Ground.guard }], guard := some (10, false) }, { dst := some 58, op := Op.pick (Operand.tmp 55) (Operand.const (Value.bool true)) (Operand.tmp 57), type := 4, pos := "more.go:21", after := #[{ on := 10, ground := Ground.data }, { on := 12, ground := Ground.data }], guard := none }, { dst := some 59, op := Op.move (Operand.tmp 58), type := 4, pos := "more.go:21", after := #[{ on := 13, ground := Ground.data }, { on := 10, ground := Ground.chain }], guard := none }, { dst := some 60, op := Op.move (Operand.tmp 3), type := 9, pos := "more.go:21", after := #[{ on := 14, ground := Ground.guard }], guard := some (14, false) }, { dst := some 61, op := Op.binOp BinOp.eql 9 (Operand.tmp 60) (Operand.const (Value.string { data := #[112, 114, 101, 112, 101, 110, 100] })) 9, type := 4, pos := "more.go:21", after := #[{ on := 15, ground := Ground.data }, { on := 14, ground := Ground.guard }], guard := some (14, false) }, { dst := some 62, op := Op.pick (Operand.tmp 59) (Operand.const (Value.bool true)) (Operand.tmp 61), type := 4, pos := "more.go:21", after := #[{ on := 14, ground := Ground.data }, { on := 16, ground := Ground.data }], guard := none }, { dst := some 63, op := Op.move (Operand.tmp 62), type := 4, pos := "more.go:21", after := #[{ on := 17, ground := Ground.data }, { on := 14, ground := Ground.chain }], guard := none }, { dst := some 64, op := Op.move (Operand.tmp 3), type := 9, pos := "more.go:21", after := #[{ on := 18, ground := Ground.guard }], guard := some (18, false) }, { dst := some 65, op := Op.binOp BinOp.eql 9 (Operand.tmp 64) (Operand.const (Value.string { data := #[99, 97, 115] })) 9, type := 4, pos := "more.go:21", after := #[{ on := 19, ground := Ground.data }, { on := 18, ground := Ground.guard }], guard := some (18, false) }, { dst := some 66, op := Op.pick (Operand.tmp 63) (Operand.const (Value.bool true)) (Operand.tmp 65), type := 4, pos := "more.go:21", after := #[{ on := 18, ground := Ground.data }, { on := 20, ground := Ground.data }], guard := none }, { dst := some 12, op := Op.assign (Operand.tmp 66), type := 4, pos := "more.go:21", after := #[{ on := 21, ground := Ground.data }, { on := 18, ground := Ground.chain }, { on := 0, ground := Ground.phase }, { on := 1, ground := Ground.phase }, { on := 2, ground := Ground.phase }, { on := 3, ground := Ground.phase }, { on := 4, ground := Ground.phase }, { on := 5, ground := Ground.phase }, { on := 6, ground := Ground.phase }, { on := 7, ground := Ground.phase }, { on := 8, ground := Ground.phase }, { on := 9, ground := Ground.phase }, { on := 10, ground := Ground.phase }, { on := 11, ground := Ground.phase }, { on := 12, ground := Ground.phase }, { on := 13, ground := Ground.phase }, { on := 14, ground := Ground.phase }, { on := 15, ground := Ground.phase }, { on := 16, ground := Ground.phase }, { on := 17, ground := Ground.phase }, { on := 18, ground := Ground.phase }, { on := 19, ground := Ground.phase }, { on := 20, ground := Ground.phase }, { on := 21, ground := Ground.phase }], guard := none }] false) (Exit.then K Q) ⟨#[t0, t1, t2, Value.string v, t4, t5, t6, t7, t8, t9, t10, t11, t12, t13, t14, t15, t16, t17, t18, t19, t20, t21, t22, t23, t24, t25, t26, t27, t28, t29, t30, t31, t32, t33, t34, t35, t36, t37, t38, t39, t40, t41, t42, t43, t44, t45, t46, t47, t48, t49, t50, t51, t52, t53, t54, t55, t56, t57, t58, t59, t60, t61, t62, t63, t64, t65, t66, t67, t68, t69, t70, t71, t72, t73, t74, t75, t76, t77, t78, t79, t80, t81, t82, t83, t84, t85, t86, t87, t88, t89, t90, t91, t92, t93, t94, t95, t96, t97, t98, t99, t100, t101, t102, t103, t104, t105, t106, t107, t108, t109, t110, t111, t112, t113, t114, t115, t116, t117, t118, t119, t120, t121, t122], []⟩ w := by
  cases g0 : v.toList == [115, 101, 116] with
  | true =>
    have E : verbB v = true := by simp only [verbB, g0]; rfl
    rw [E] at h
    have H := hide h
    clear h E
    go_wp2
    exact H.out _ _ _ _ _ _ _ _ _ _ _ _ _ _ _ _ _ _ _ _ _ _ 
  | false =>
    cases g1 : v.toList == [97, 100, 100] with
    | true =>
      have E : verbB v = true := by simp only [verbB, g0, g1]; rfl
      rw [E] at h
      have H := hide h
      clear h E
      go_wp2
      exact H.out _ _ _ _ _ _ _ _ _ _ _ _ _ _ _ _ _ _ _ _ _ _ 
    | false =>
      cases g2 : v.toList == [114, 101, 112, 108, 97, 99, 101] with
      | true =>
        have E : verbB v = true := by simp only [verbB, g0, g1, g2]; rfl
        rw [E] at h
        have H := hide h
        clear h E
        go_wp2
        exact H.out _ _ _ _ _ _ _ _ _ _ _ _ _ _ _ _ _ _ _ _ _ _ 
      | false =>
        cases g3 : v.toList == [97, 112, 112, 101, 110, 100] with
        | true =>
          have E : verbB v = true := by simp only [verbB, g0, g1, g2, g3]; rfl
          rw [E] at h
          have H := hide h
          clear h E
          go_wp2
          exact H.out _ _ _ _ _ _ _ _ _ _ _ _ _ _ _ _ _ _ _ _ _ _ 
        | false =>
          cases g4 : v.toList == [112, 114, 101, 112, 101, 110, 100] with
          | true =>
            have E : verbB v = true := by simp only [verbB, g0, g1, g2, g3, g4]; rfl
            rw [E] at h
            have H := hide h
            clear h E
            go_wp2
            exact H.out _ _ _ _ _ _ _ _ _ _ _ _ _ _ _ _ _ _ _ _ _ _ 
          | false =>
            cases g5 : v.toList == [99, 97, 115] with
            | true =>
              have E : verbB v = true := by simp only [verbB, g0, g1, g2, g3, g4, g5]; rfl
              rw [E] at h
              have H := hide h
              clear h E
              go_wp2
              exact H.out _ _ _ _ _ _ _ _ _ _ _ _ _ _ _ _ _ _ _ _ _ _ 
            | false =>
              have E : verbB v = false := by simp only [verbB, g0, g1, g2, g3, g4, g5]; rfl
              rw [E] at h
              have H := hide h
              clear h E
              go_wp2
              exact H.out _ _ _ _ _ _ _ _ _ _ _ _ _ _ _ _ _ _ _ _ _ _ 
end Go.Proofs.Ytofjadgnkpcaeaa
