/-
  A block of the document's sum.
-/
import Derived.Test.YtpkikibcfkdodaaHKnown
import Derived.Test.YtpkikibcfkdodaaHBlk
import Derived.Deep.CutBlock
import Derived.Deep.RegionHeld
import Derived.StillTailTactics
namespace Go.Proofs.Ytpkikibcfkdodaa
open Go Go.RowKit
theorem add3 (a b c : Nat) : ((a + b) % M32 + c) % M32 = (a + (b + c) % M32) % M32 := by unfold M32; omega
/-- What stands in a round. -/
structure R6 (w0 w : World) (V X : Nat) (r : St8) (ww : List Nat) : Prop where
  v : Blk w V 60 r.cells
  x : Blk w X 62 (arr 64 ww)
  bel : Below X w0 w
theorem R6.drewN {w0 w : World} {V X : Nat} {r : St8} {ww : List Nat} (h : R6 w0 w V X r ww) (n : Nat) : R6 w0 (w.drewN n) V X r ww := ⟨h.v.drewN n, h.x.drewN n, below_drewN h.bel n⟩
set_option maxRecDepth 100000 in
set_option maxHeartbeats 40000000 in
theorem body5 (s0 s1 s2 s6 s7 s9 s10 s11 s12 s13 s14 s15 s16 s17 s18 s19 s20 s21 s22 s23 s24 s25 s26 s27 s28 s29 s30 s31 s32 s33 s34 s35 s36 s37 s38 s39 s40 s41 s42 s43 s44 s45 s46 s47 s48 s49 s50 s51 s52 s53 s54 s55 s56 s57 s58 s59 s60 s61 s62 s63 s64 s65 s66 s67 s68 s69 s70 s71 s72 s73 s74 s75 s76 s77 s78 s79 s80 s81 s82 s83 s84 s85 s86 s87 s88 s89 s90 s91 s92 s93 s94 s95 s96 s97 s98 s99 s100 s101 s102 s103 s104 s105 s106 s107 s108 s109 s110 s111 s112 s113 s114 s115 s116 s117 s118 s119 s120 s121 s122 s123 s124 s125 s126 s127 s128 s129 s130 s131 s132 s133 s134 s135 s136 s137 s138 s139 s140 s141 s142 s143 s144 s145 s146 s147 s148 s149 s150 s151 s152 s153 s154 s155 s156 s157 s158 s159 s160 s161 s162 s163 s164 s165 s166 s167 s168 s169 s170 s171 s172 s173 s174 s175 s176 s177 s178 s179 s180 s181 s182 s183 s184 s185 s186 s187 s188 s189 s190 s191 s192 s193 s194 s195 s196 s197 s198 s199 s200 s201 s202 s203 s204 s205 s206 s207 s208 s209 s210 s211 s212 s213 s214 s215 s216 s217 s218 s219 s220 s221 s222 s223 s224 s225 s226 s227 s228 s229 s230 s231 s232 s233 s234 s235 s236 s237 s238 s239 s240 s241 s242 s243 s244 s245 s246 s247 s248 s249 s250 s251 s252 s253 s254 s255 s256 s257 s258 s259 s260 s261 s262 s263 s264 s265 s266 s267 s268 s269 s270 s271 s272 s273 s274 s275 s276 : Value) (Q : Exit → Act → World → Prop) (w : World) (H K T n c5 at_ : Nat) (s : St8) (m : List UInt8) (hH : Blk w H 60 s.cells) (hK : Blk w K 62 (arr 64 kw)) (hs : s.ok) (hm : m.length = 64) (hr : Reads4 w T at_ m) (hT : T < w.heap.size) (hat : at_ + 64 ≤ n) (hn : n ≤ 2000)
    (hP : ∀ (c : _) (a : Act) (d : Option Tmp) (v : Value) (w : World), Q (.panic c) (a.put d v) w → Q (.panic c) a w)
    (hQ : ∀ (t9 t10 t11 t12 t13 t14 t15 t16 t17 t18 t19 t20 t21 t22 t62 t63 t64 t65 t66 t67 t68 t69 t70 t71 t72 t73 t74 t75 t76 t77 t78 t79 t80 t81 t82 t83 t84 t85 t86 t87 t88 t89 t90 t91 t92 t93 t94 t95 t96 t97 t98 t99 t100 t101 t102 t103 t104 t105 t106 t107 t108 t109 t110 t111 t112 t113 t114 t115 t116 t117 t118 t119 t120 t121 t122 t123 t124 t125 t126 t127 t128 t129 t130 t131 t132 t133 t134 t135 t136 t137 t138 t139 t140 t141 t142 t143 t144 t145 t146 t147 t148 t149 t150 t151 t152 t153 t154 t155 t156 t157 t158 t159 t160 t161 t162 t163 t164 t165 t166 t167 t168 t169 t170 t171 t172 t173 t174 t175 t176 t177 t178 t179 t180 t181 t182 t183 t184 t185 t186 t187 t188 t189 t190 t191 t192 t193 t194 t195 t196 t197 t198 t199 t200 t201 t202 t203 t204 t205 t206 t207 t208 t209 t210 t211 t212 t213 t214 t215 t216 t217 t218 t219 t220 t221 t222 t223 t224 t225 t226 t227 t228 t229 t230 t231 t232 t233 t234 t235 t236 t237 t238 t239 t240 t241 t242 t243 t244 t245 t246 t247 t248 t249 t250 t251 t252 t253 t254 t255 t256 t257 t258 : Value) (w' : World), Blk w' H 60 (blockF s kw m).cells → Touch w w' H none → Q .normal ⟨#[s0, s1, s2, .pointer (some ⟨H, 0, none⟩), .pointer (some ⟨K, 0, none⟩), .slice (some ⟨T, 0, none⟩) n c5, s6, s7, .int .i64 (at_ : Int), t9, t10, t11, t12, t13, t14, t15, t16, t17, t18, t19, t20, t21, t22, s23, s24, s25, s26, s27, s28, s29, s30, s31, s32, s33, s34, s35, s36, s37, s38, s39, s40, s41, s42, s43, s44, s45, s46, s47, s48, s49, s50, s51, s52, s53, s54, s55, s56, s57, s58, s59, s60, s61, t62, t63, t64, t65, t66, t67, t68, t69, t70, t71, t72, t73, t74, t75, t76, t77, t78, t79, t80, t81, t82, t83, t84, t85, t86, t87, t88, t89, t90, t91, t92, t93, t94, t95, t96, t97, t98, t99, t100, t101, t102, t103, t104, t105, t106, t107, t108, t109, t110, t111, t112, t113, t114, t115, t116, t117, t118, t119, t120, t121, t122, t123, t124, t125, t126, t127, t128, t129, t130, t131, t132, t133, t134, t135, t136, t137, t138, t139, t140, t141, t142, t143, t144, t145, t146, t147, t148, t149, t150, t151, t152, t153, t154, t155, t156, t157, t158, t159, t160, t161, t162, t163, t164, t165, t166, t167, t168, t169, t170, t171, t172, t173, t174, t175, t176, t177, t178, t179, t180, t181, t182, t183, t184, t185, t186, t187, t188, t189, t190, t191, t192, t193, t194, t195, t196, t197, t198, t199, t200, t201, t202, t203, t204, t205, t206, t207, t208, t209, t210, t211, t212, t213, t214, t215, t216, t217, t218, t219, t220, t221, t222, t223, t224, t225, t226, t227, t228, t229, t230, t231, t232, t233, t234, t235, t236, t237, t238, t239, t240, t241, t242, t243, t244, t245, t246, t247, t248, t249, t250, t251, t252, t253, t254, t255, t256, t257, t258, s259, s260, s261, s262, s263, s264, s265, s266, s267, s268, s269, s270, s271, s272, s273, s274, s275, s276], []⟩ w') :
    Code.wp Try.prog (Code.block 5 ((Code.region 14 #[{ dst := some 9, op := Op.alloc 62, type := 0, pos := "ref.go:45", after := #[], guard := none }] false).seq (((Code.region 15 #[{ dst := some 10, op := Op.assign (Operand.const (Value.int IntKind.i64 0)), type := 3, pos := "ref.go:46", after := #[], guard := none }] false).seq (Code.block 6 (((Code.region 16 #[{ dst := some 62, op := Op.move (Operand.tmp 10), type := 3, pos := "ref.go:46", after := #[], guard := none }, { dst := some 63, op := Op.binOp BinOp.lss 3 (Operand.tmp 62) (Operand.const (Value.int IntKind.i64 16)) 3, type := 4, pos := "ref.go:46", after := #[{ on := 0, ground := Ground.data }], guard := none }] false).seq (Code.cond (Operand.tmp 63) Code.skip (Code.exit 6))).seq ((Code.block 7 ((Code.region 18 #[{ dst := some 66, op := Op.move (Operand.tmp 8), type := 3, pos := "ref.go:47", after := #[], guard := none }, { dst := some 67, op := Op.move (Operand.tmp 10), type := 3, pos := "ref.go:47", after := #[], guard := none }, { dst := some 68, op := Op.binOp BinOp.mul 3 (Operand.const (Value.int IntKind.i64 4)) (Operand.tmp 67) 3, type := 3, pos := "ref.go:47", after := #[{ on := 1, ground := Ground.data }], guard := none }, { dst := some 69, op := Op.binOp BinOp.add 3 (Operand.tmp 66) (Operand.tmp 68) 3, type := 3, pos := "ref.go:47", after := #[{ on := 0, ground := Ground.data }, { on := 2, ground := Ground.data }], guard := none }, { dst := some 11, op := Op.assign (Operand.tmp 69), type := 3, pos := "ref.go:47", after := #[{ on := 3, ground := Ground.data }, { on := 0, ground := Ground.phase }, { on := 1, ground := Ground.phase }, { on := 2, ground := Ground.phase }, { on := 3, ground := Ground.phase }], guard := none }] false).seq (Code.region 19 #[{ dst := some 70, op := Op.move (Operand.tmp 10), type := 3, pos := "ref.go:48", after := #[], guard := none }, { dst := some 71, op := Op.move (Operand.tmp 5), type := 22, pos := "ref.go:48", after := #[], guard := none }, { dst := some 72, op := Op.move (Operand.tmp 11), type := 3, pos := "ref.go:48", after := #[], guard := none }, { dst := some 73, op := Op.indexAddr 22 (Operand.tmp 71) (Operand.tmp 72), type := 0, pos := "ref.go:48", after := #[{ on := 1, ground := Ground.data }, { on := 2, ground := Ground.data }], guard := none }, { dst := some 74, op := Op.load 5 (Operand.tmp 73), type := 5, pos := "ref.go:48", after := #[{ on := 3, ground := Ground.data }], guard := none }, { dst := some 75, op := Op.convert 5 59 (Operand.tmp 74), type := 59, pos := "ref.go:48", after := #[{ on := 4, ground := Ground.data }], guard := none }, { dst := some 76, op := Op.binOp BinOp.shl 59 (Operand.tmp 75) (Operand.const (Value.int IntKind.u64 24)) 68, type := 59, pos := "ref.go:48", after := #[{ on := 5, ground := Ground.data }], guard := none }, { dst := some 77, op := Op.move (Operand.tmp 5), type := 22, pos := "ref.go:48", after := #[], guard := none }, { dst := some 78, op := Op.move (Operand.tmp 11), type := 3, pos := "ref.go:48", after := #[], guard := none }, { dst := some 79, op := Op.binOp BinOp.add 3 (Operand.tmp 78) (Operand.const (Value.int IntKind.i64 1)) 3, type := 3, pos := "ref.go:48", after := #[{ on := 8, ground := Ground.data }], guard := none }, { dst := some 80, op := Op.indexAddr 22 (Operand.tmp 77) (Operand.tmp 79), type := 0, pos := "ref.go:48", after := #[{ on := 7, ground := Ground.data }, { on := 9, ground := Ground.data }], guard := none }, { dst := some 81, op := Op.load 5 (Operand.tmp 80), type := 5, pos := "ref.go:48", after := #[{ on := 10, ground := Ground.data }], guard := none }, { dst := some 82, op := Op.convert 5 59 (Operand.tmp 81), type := 59, pos := "ref.go:48", after := #[{ on := 11, ground := Ground.data }], guard := none }, { dst := some 83, op := Op.binOp BinOp.shl 59 (Operand.tmp 82) (Operand.const (Value.int IntKind.u64 16)) 68, type := 59, pos := "ref.go:48", after := #[{ on := 12, ground := Ground.data }], guard := none }, { dst := some 84, op := Op.binOp BinOp.or 59 (Operand.tmp 76) (Operand.tmp 83) 59, type := 59, pos := "ref.go:48", after := #[{ on := 6, ground := Ground.data }, { on := 13, ground := Ground.data }], guard := none }, { dst := some 85, op := Op.move (Operand.tmp 5), type := 22, pos := "ref.go:48", after := #[], guard := none }, { dst := some 86, op := Op.move (Operand.tmp 11), type := 3, pos := "ref.go:48", after := #[], guard := none }, { dst := some 87, op := Op.binOp BinOp.add 3 (Operand.tmp 86) (Operand.const (Value.int IntKind.i64 2)) 3, type := 3, pos := "ref.go:48", after := #[{ on := 16, ground := Ground.data }], guard := none }, { dst := some 88, op := Op.indexAddr 22 (Operand.tmp 85) (Operand.tmp 87), type := 0, pos := "ref.go:48", after := #[{ on := 15, ground := Ground.data }, { on := 17, ground := Ground.data }], guard := none }, { dst := some 89, op := Op.load 5 (Operand.tmp 88), type := 5, pos := "ref.go:48", after := #[{ on := 18, ground := Ground.data }], guard := none }, { dst := some 90, op := Op.convert 5 59 (Operand.tmp 89), type := 59, pos := "ref.go:48", after := #[{ on := 19, ground := Ground.data }], guard := none }, { dst := some 91, op := Op.binOp BinOp.shl 59 (Operand.tmp 90) (Operand.const (Value.int IntKind.u64 8)) 68, type := 59, pos := "ref.go:48", after := #[{ on := 20, ground := Ground.data }], guard := none }, { dst := some 92, op := Op.binOp BinOp.or 59 (Operand.tmp 84) (Operand.tmp 91) 59, type := 59, pos := "ref.go:48", after := #[{ on := 14, ground := Ground.data }, { on := 21, ground := Ground.data }], guard := none }, { dst := some 93, op := Op.move (Operand.tmp 5), type := 22, pos := "ref.go:48", after := #[], guard := none }, { dst := some 94, op := Op.move (Operand.tmp 11), type := 3, pos := "ref.go:48", after := #[], guard := none }, { dst := some 95, op := Op.binOp BinOp.add 3 (Operand.tmp 94) (Operand.const (Value.int IntKind.i64 3)) 3, type := 3, pos := "ref.go:48", after := #[{ on := 24, ground := Ground.data }], guard := none }, { dst := some 96, op := Op.indexAddr 22 (Operand.tmp 93) (Operand.tmp 95), type := 0, pos := "ref.go:48", after := #[{ on := 23, ground := Ground.data }, { on := 25, ground := Ground.data }], guard := none }, { dst := some 97, op := Op.load 5 (Operand.tmp 96), type := 5, pos := "ref.go:48", after := #[{ on := 26, ground := Ground.data }], guard := none }, { dst := some 98, op := Op.convert 5 59 (Operand.tmp 97), type := 59, pos := "ref.go:48", after := #[{ on := 27, ground := Ground.data }], guard := none }, { dst := some 99, op := Op.binOp BinOp.or 59 (Operand.tmp 92) (Operand.tmp 98) 59, type := 59, pos := "ref.go:48", after := #[{ on := 22, ground := Ground.data }, { on := 28, ground := Ground.data }], guard := none }, { dst := some 100, op := Op.indexAddr 62 (Operand.tmp 9) (Operand.tmp 70), type := 0, pos := "ref.go:48", after := #[{ on := 0, ground := Ground.data }, { on := 0, ground := Ground.phase }, { on := 1, ground := Ground.phase }, { on := 2, ground := Ground.phase }, { on := 3, ground := Ground.phase }, { on := 4, ground := Ground.phase }, { on := 5, ground := Ground.phase }, { on := 6, ground := Ground.phase }, { on := 7, ground := Ground.phase }, { on := 8, ground := Ground.phase }, { on := 9, ground := Ground.phase }, { on := 10, ground := Ground.phase }, { on := 11, ground := Ground.phase }, { on := 12, ground := Ground.phase }, { on := 13, ground := Ground.phase }, { on := 14, ground := Ground.phase }, { on := 15, ground := Ground.phase }, { on := 16, ground := Ground.phase }, { on := 17, ground := Ground.phase }, { on := 18, ground := Ground.phase }, { on := 19, ground := Ground.phase }, { on := 20, ground := Ground.phase }, { on := 21, ground := Ground.phase }, { on := 22, ground := Ground.phase }, { on := 23, ground := Ground.phase }, { on := 24, ground := Ground.phase }, { on := 25, ground := Ground.phase }, { on := 26, ground := Ground.phase }, { on := 27, ground := Ground.phase }, { on := 28, ground := Ground.phase }, { on := 29, ground := Ground.phase }], guard := none }, { dst := none, op := Op.store 59 (Operand.tmp 100) (Operand.tmp 99), type := 0, pos := "ref.go:48", after := #[{ on := 30, ground := Ground.data }, { on := 29, ground := Ground.data }, { on := 0, ground := Ground.phase }, { on := 1, ground := Ground.phase }, { on := 2, ground := Ground.phase }, { on := 3, ground := Ground.phase }, { on := 4, ground := Ground.phase }, { on := 5, ground := Ground.phase }, { on := 6, ground := Ground.phase }, { on := 7, ground := Ground.phase }, { on := 8, ground := Ground.phase }, { on := 9, ground := Ground.phase }, { on := 10, ground := Ground.phase }, { on := 11, ground := Ground.phase }, { on := 12, ground := Ground.phase }, { on := 13, ground := Ground.phase }, { on := 14, ground := Ground.phase }, { on := 15, ground := Ground.phase }, { on := 16, ground := Ground.phase }, { on := 17, ground := Ground.phase }, { on := 18, ground := Ground.phase }, { on := 19, ground := Ground.phase }, { on := 20, ground := Ground.phase }, { on := 21, ground := Ground.phase }, { on := 22, ground := Ground.phase }, { on := 23, ground := Ground.phase }, { on := 24, ground := Ground.phase }, { on := 25, ground := Ground.phase }, { on := 26, ground := Ground.phase }, { on := 27, ground := Ground.phase }, { on := 28, ground := Ground.phase }, { on := 29, ground := Ground.phase }], guard := none }] true))).seq (Code.region 17 #[{ dst := some 64, op := Op.move (Operand.tmp 10), type := 3, pos := "ref.go:46", after := #[], guard := none }, { dst := some 65, op := Op.binOp BinOp.add 3 (Operand.tmp 64) (Operand.const (Value.int IntKind.i64 1)) 3, type := 3, pos := "ref.go:46", after := #[{ on := 0, ground := Ground.data }], guard := none }, { dst := some 10, op := Op.assign (Operand.tmp 65), type := 3, pos := "ref.go:46", after := #[{ on := 1, ground := Ground.data }, { on := 0, ground := Ground.phase }, { on := 1, ground := Ground.phase }], guard := none }] false))).loop)).seq (((Code.region 20 #[{ dst := some 12, op := Op.assign (Operand.const (Value.int IntKind.i64 16)), type := 3, pos := "ref.go:50", after := #[], guard := none }] false).seq (Code.block 8 (((Code.region 21 #[{ dst := some 101, op := Op.move (Operand.tmp 12), type := 3, pos := "ref.go:50", after := #[], guard := none }, { dst := some 102, op := Op.binOp BinOp.lss 3 (Operand.tmp 101) (Operand.const (Value.int IntKind.i64 64)) 3, type := 4, pos := "ref.go:50", after := #[{ on := 0, ground := Ground.data }], guard := none }] false).seq (Code.cond (Operand.tmp 102) Code.skip (Code.exit 8))).seq ((Code.block 9 ((Code.region 23 #[{ dst := some 105, op := Op.move (Operand.tmp 12), type := 3, pos := "ref.go:51", after := #[], guard := none }, { dst := some 106, op := Op.binOp BinOp.sub 3 (Operand.tmp 105) (Operand.const (Value.int IntKind.i64 15)) 3, type := 3, pos := "ref.go:51", after := #[{ on := 0, ground := Ground.data }], guard := none }, { dst := some 107, op := Op.indexAddr 62 (Operand.tmp 9) (Operand.tmp 106), type := 0, pos := "ref.go:51", after := #[{ on := 1, ground := Ground.data }], guard := none }, { dst := some 108, op := Op.load 59 (Operand.tmp 107), type := 59, pos := "ref.go:51", after := #[{ on := 2, ground := Ground.data }], guard := none }, { dst := some 109, op := Op.call { callee := Callee.value (Operand.func 36), args := #[Operand.tmp 108, Operand.const (Value.int IntKind.i64 7)], argTypes := #[59, 3] }, type := 59, pos := "ref.go:51", after := #[{ on := 3, ground := Ground.data }], guard := none }, { dst := some 110, op := Op.move (Operand.tmp 12), type := 3, pos := "ref.go:51", after := #[], guard := none }, { dst := some 111, op := Op.binOp BinOp.sub 3 (Operand.tmp 110) (Operand.const (Value.int IntKind.i64 15)) 3, type := 3, pos := "ref.go:51", after := #[{ on := 5, ground := Ground.data }], guard := none }, { dst := some 112, op := Op.indexAddr 62 (Operand.tmp 9) (Operand.tmp 111), type := 0, pos := "ref.go:51", after := #[{ on := 6, ground := Ground.data }], guard := none }, { dst := some 113, op := Op.load 59 (Operand.tmp 112), type := 59, pos := "ref.go:51", after := #[{ on := 7, ground := Ground.data }], guard := none }, { dst := some 114, op := Op.call { callee := Callee.value (Operand.func 36), args := #[Operand.tmp 113, Operand.const (Value.int IntKind.i64 18)], argTypes := #[59, 3] }, type := 59, pos := "ref.go:51", after := #[{ on := 8, ground := Ground.data }, { on := 4, ground := Ground.chain }], guard := none }, { dst := some 115, op := Op.binOp BinOp.xor 59 (Operand.tmp 109) (Operand.tmp 114) 59, type := 59, pos := "ref.go:51", after := #[{ on := 4, ground := Ground.data }, { on := 9, ground := Ground.data }], guard := none }, { dst := some 116, op := Op.move (Operand.tmp 12), type := 3, pos := "ref.go:51", after := #[], guard := none }, { dst := some 117, op := Op.binOp BinOp.sub 3 (Operand.tmp 116) (Operand.const (Value.int IntKind.i64 15)) 3, type := 3, pos := "ref.go:51", after := #[{ on := 11, ground := Ground.data }], guard := none }, { dst := some 118, op := Op.indexAddr 62 (Operand.tmp 9) (Operand.tmp 117), type := 0, pos := "ref.go:51", after := #[{ on := 12, ground := Ground.data }], guard := none }, { dst := some 119, op := Op.load 59 (Operand.tmp 118), type := 59, pos := "ref.go:51", after := #[{ on := 13, ground := Ground.data }], guard := none }, { dst := some 120, op := Op.binOp BinOp.shr 59 (Operand.tmp 119) (Operand.const (Value.int IntKind.u64 3)) 68, type := 59, pos := "ref.go:51", after := #[{ on := 14, ground := Ground.data }], guard := none }, { dst := some 121, op := Op.binOp BinOp.xor 59 (Operand.tmp 115) (Operand.tmp 120) 59, type := 59, pos := "ref.go:51", after := #[{ on := 10, ground := Ground.data }, { on := 15, ground := Ground.data }], guard := none }, { dst := some 13, op := Op.assign (Operand.tmp 121), type := 59, pos := "ref.go:51", after := #[{ on := 16, ground := Ground.data }, { on := 9, ground := Ground.chain }, { on := 0, ground := Ground.phase }, { on := 1, ground := Ground.phase }, { on := 2, ground := Ground.phase }, { on := 3, ground := Ground.phase }, { on := 4, ground := Ground.phase }, { on := 5, ground := Ground.phase }, { on := 6, ground := Ground.phase }, { on := 7, ground := Ground.phase }, { on := 8, ground := Ground.phase }, { on := 9, ground := Ground.phase }, { on := 10, ground := Ground.phase }, { on := 11, ground := Ground.phase }, { on := 12, ground := Ground.phase }, { on := 13, ground := Ground.phase }, { on := 14, ground := Ground.phase }, { on := 15, ground := Ground.phase }, { on := 16, ground := Ground.phase }], guard := none }] true).seq ((Code.region 24 #[{ dst := some 122, op := Op.move (Operand.tmp 12), type := 3, pos := "ref.go:52", after := #[], guard := none }, { dst := some 123, op := Op.binOp BinOp.sub 3 (Operand.tmp 122) (Operand.const (Value.int IntKind.i64 2)) 3, type := 3, pos := "ref.go:52", after := #[{ on := 0, ground := Ground.data }], guard := none }, { dst := some 124, op := Op.indexAddr 62 (Operand.tmp 9) (Operand.tmp 123), type := 0, pos := "ref.go:52", after := #[{ on := 1, ground := Ground.data }], guard := none }, { dst := some 125, op := Op.load 59 (Operand.tmp 124), type := 59, pos := "ref.go:52", after := #[{ on := 2, ground := Ground.data }], guard := none }, { dst := some 126, op := Op.call { callee := Callee.value (Operand.func 36), args := #[Operand.tmp 125, Operand.const (Value.int IntKind.i64 17)], argTypes := #[59, 3] }, type := 59, pos := "ref.go:52", after := #[{ on := 3, ground := Ground.data }], guard := none }, { dst := some 127, op := Op.move (Operand.tmp 12), type := 3, pos := "ref.go:52", after := #[], guard := none }, { dst := some 128, op := Op.binOp BinOp.sub 3 (Operand.tmp 127) (Operand.const (Value.int IntKind.i64 2)) 3, type := 3, pos := "ref.go:52", after := #[{ on := 5, ground := Ground.data }], guard := none }, { dst := some 129, op := Op.indexAddr 62 (Operand.tmp 9) (Operand.tmp 128), type := 0, pos := "ref.go:52", after := #[{ on := 6, ground := Ground.data }], guard := none }, { dst := some 130, op := Op.load 59 (Operand.tmp 129), type := 59, pos := "ref.go:52", after := #[{ on := 7, ground := Ground.data }], guard := none }, { dst := some 131, op := Op.call { callee := Callee.value (Operand.func 36), args := #[Operand.tmp 130, Operand.const (Value.int IntKind.i64 19)], argTypes := #[59, 3] }, type := 59, pos := "ref.go:52", after := #[{ on := 8, ground := Ground.data }, { on := 4, ground := Ground.chain }], guard := none }, { dst := some 132, op := Op.binOp BinOp.xor 59 (Operand.tmp 126) (Operand.tmp 131) 59, type := 59, pos := "ref.go:52", after := #[{ on := 4, ground := Ground.data }, { on := 9, ground := Ground.data }], guard := none }, { dst := some 133, op := Op.move (Operand.tmp 12), type := 3, pos := "ref.go:52", after := #[], guard := none }, { dst := some 134, op := Op.binOp BinOp.sub 3 (Operand.tmp 133) (Operand.const (Value.int IntKind.i64 2)) 3, type := 3, pos := "ref.go:52", after := #[{ on := 11, ground := Ground.data }], guard := none }, { dst := some 135, op := Op.indexAddr 62 (Operand.tmp 9) (Operand.tmp 134), type := 0, pos := "ref.go:52", after := #[{ on := 12, ground := Ground.data }], guard := none }, { dst := some 136, op := Op.load 59 (Operand.tmp 135), type := 59, pos := "ref.go:52", after := #[{ on := 13, ground := Ground.data }], guard := none }, { dst := some 137, op := Op.binOp BinOp.shr 59 (Operand.tmp 136) (Operand.const (Value.int IntKind.u64 10)) 68, type := 59, pos := "ref.go:52", after := #[{ on := 14, ground := Ground.data }], guard := none }, { dst := some 138, op := Op.binOp BinOp.xor 59 (Operand.tmp 132) (Operand.tmp 137) 59, type := 59, pos := "ref.go:52", after := #[{ on := 10, ground := Ground.data }, { on := 15, ground := Ground.data }], guard := none }, { dst := some 14, op := Op.assign (Operand.tmp 138), type := 59, pos := "ref.go:52", after := #[{ on := 16, ground := Ground.data }, { on := 9, ground := Ground.chain }, { on := 0, ground := Ground.phase }, { on := 1, ground := Ground.phase }, { on := 2, ground := Ground.phase }, { on := 3, ground := Ground.phase }, { on := 4, ground := Ground.phase }, { on := 5, ground := Ground.phase }, { on := 6, ground := Ground.phase }, { on := 7, ground := Ground.phase }, { on := 8, ground := Ground.phase }, { on := 9, ground := Ground.phase }, { on := 10, ground := Ground.phase }, { on := 11, ground := Ground.phase }, { on := 12, ground := Ground.phase }, { on := 13, ground := Ground.phase }, { on := 14, ground := Ground.phase }, { on := 15, ground := Ground.phase }, { on := 16, ground := Ground.phase }], guard := none }] true).seq (Code.region 25 #[{ dst := some 139, op := Op.move (Operand.tmp 12), type := 3, pos := "ref.go:53", after := #[], guard := none }, { dst := some 140, op := Op.move (Operand.tmp 12), type := 3, pos := "ref.go:53", after := #[], guard := none }, { dst := some 141, op := Op.binOp BinOp.sub 3 (Operand.tmp 140) (Operand.const (Value.int IntKind.i64 16)) 3, type := 3, pos := "ref.go:53", after := #[{ on := 1, ground := Ground.data }], guard := none }, { dst := some 142, op := Op.indexAddr 62 (Operand.tmp 9) (Operand.tmp 141), type := 0, pos := "ref.go:53", after := #[{ on := 2, ground := Ground.data }], guard := none }, { dst := some 143, op := Op.load 59 (Operand.tmp 142), type := 59, pos := "ref.go:53", after := #[{ on := 3, ground := Ground.data }], guard := none }, { dst := some 144, op := Op.move (Operand.tmp 13), type := 59, pos := "ref.go:53", after := #[], guard := none }, { dst := some 145, op := Op.binOp BinOp.add 59 (Operand.tmp 143) (Operand.tmp 144) 59, type := 59, pos := "ref.go:53", after := #[{ on := 4, ground := Ground.data }, { on := 5, ground := Ground.data }], guard := none }, { dst := some 146, op := Op.move (Operand.tmp 12), type := 3, pos := "ref.go:53", after := #[], guard := none }, { dst := some 147, op := Op.binOp BinOp.sub 3 (Operand.tmp 146) (Operand.const (Value.int IntKind.i64 7)) 3, type := 3, pos := "ref.go:53", after := #[{ on := 7, ground := Ground.data }], guard := none }, { dst := some 148, op := Op.indexAddr 62 (Operand.tmp 9) (Operand.tmp 147), type := 0, pos := "ref.go:53", after := #[{ on := 8, ground := Ground.data }], guard := none }, { dst := some 149, op := Op.load 59 (Operand.tmp 148), type := 59, pos := "ref.go:53", after := #[{ on := 9, ground := Ground.data }], guard := none }, { dst := some 150, op := Op.binOp BinOp.add 59 (Operand.tmp 145) (Operand.tmp 149) 59, type := 59, pos := "ref.go:53", after := #[{ on := 6, ground := Ground.data }, { on := 10, ground := Ground.data }], guard := none }, { dst := some 151, op := Op.move (Operand.tmp 14), type := 59, pos := "ref.go:53", after := #[], guard := none }, { dst := some 152, op := Op.binOp BinOp.add 59 (Operand.tmp 150) (Operand.tmp 151) 59, type := 59, pos := "ref.go:53", after := #[{ on := 11, ground := Ground.data }, { on := 12, ground := Ground.data }], guard := none }, { dst := some 153, op := Op.indexAddr 62 (Operand.tmp 9) (Operand.tmp 139), type := 0, pos := "ref.go:53", after := #[{ on := 0, ground := Ground.data }, { on := 0, ground := Ground.phase }, { on := 1, ground := Ground.phase }, { on := 2, ground := Ground.phase }, { on := 3, ground := Ground.phase }, { on := 4, ground := Ground.phase }, { on := 5, ground := Ground.phase }, { on := 6, ground := Ground.phase }, { on := 7, ground := Ground.phase }, { on := 8, ground := Ground.phase }, { on := 9, ground := Ground.phase }, { on := 10, ground := Ground.phase }, { on := 11, ground := Ground.phase }, { on := 12, ground := Ground.phase }, { on := 13, ground := Ground.phase }], guard := none }, { dst := none, op := Op.store 59 (Operand.tmp 153) (Operand.tmp 152), type := 0, pos := "ref.go:53", after := #[{ on := 14, ground := Ground.data }, { on := 13, ground := Ground.data }, { on := 0, ground := Ground.phase }, { on := 1, ground := Ground.phase }, { on := 2, ground := Ground.phase }, { on := 3, ground := Ground.phase }, { on := 4, ground := Ground.phase }, { on := 5, ground := Ground.phase }, { on := 6, ground := Ground.phase }, { on := 7, ground := Ground.phase }, { on := 8, ground := Ground.phase }, { on := 9, ground := Ground.phase }, { on := 10, ground := Ground.phase }, { on := 11, ground := Ground.phase }, { on := 12, ground := Ground.phase }, { on := 13, ground := Ground.phase }], guard := none }] true)))).seq (Code.region 22 #[{ dst := some 103, op := Op.move (Operand.tmp 12), type := 3, pos := "ref.go:50", after := #[], guard := none }, { dst := some 104, op := Op.binOp BinOp.add 3 (Operand.tmp 103) (Operand.const (Value.int IntKind.i64 1)) 3, type := 3, pos := "ref.go:50", after := #[{ on := 0, ground := Ground.data }], guard := none }, { dst := some 12, op := Op.assign (Operand.tmp 104), type := 3, pos := "ref.go:50", after := #[{ on := 1, ground := Ground.data }, { on := 0, ground := Ground.phase }, { on := 1, ground := Ground.phase }], guard := none }] false))).loop)).seq ((Code.region 26 #[{ dst := some 154, op := Op.load 60 (Operand.tmp 3), type := 60, pos := "ref.go:55", after := #[], guard := none }, { dst := some 15, op := Op.alloc 60, type := 0, pos := "ref.go:55", after := #[], guard := none }, { dst := none, op := Op.store 60 (Operand.tmp 15) (Operand.tmp 154), type := 0, pos := "ref.go:55", after := #[{ on := 1, ground := Ground.data }, { on := 0, ground := Ground.data }, { on := 0, ground := Ground.phase }, { on := 1, ground := Ground.phase }], guard := none }] false).seq (((Code.region 27 #[{ dst := some 16, op := Op.assign (Operand.const (Value.int IntKind.i64 0)), type := 3, pos := "ref.go:56", after := #[], guard := none }] false).seq (Code.block 10 (((Code.region 28 #[{ dst := some 155, op := Op.move (Operand.tmp 16), type := 3, pos := "ref.go:56", after := #[], guard := none }, { dst := some 156, op := Op.binOp BinOp.lss 3 (Operand.tmp 155) (Operand.const (Value.int IntKind.i64 64)) 3, type := 4, pos := "ref.go:56", after := #[{ on := 0, ground := Ground.data }], guard := none }] false).seq (Code.cond (Operand.tmp 156) Code.skip (Code.exit 10))).seq ((Code.block 11 ((Code.region 30 #[{ dst := some 159, op := Op.indexAddr 60 (Operand.tmp 15) (Operand.const (Value.int IntKind.i64 4)), type := 0, pos := "ref.go:57", after := #[], guard := none }, { dst := some 160, op := Op.load 59 (Operand.tmp 159), type := 59, pos := "ref.go:57", after := #[{ on := 0, ground := Ground.data }], guard := none }, { dst := some 161, op := Op.call { callee := Callee.value (Operand.func 36), args := #[Operand.tmp 160, Operand.const (Value.int IntKind.i64 6)], argTypes := #[59, 3] }, type := 59, pos := "ref.go:57", after := #[{ on := 1, ground := Ground.data }], guard := none }, { dst := some 162, op := Op.indexAddr 60 (Operand.tmp 15) (Operand.const (Value.int IntKind.i64 4)), type := 0, pos := "ref.go:57", after := #[], guard := none }, { dst := some 163, op := Op.load 59 (Operand.tmp 162), type := 59, pos := "ref.go:57", after := #[{ on := 3, ground := Ground.data }], guard := none }, { dst := some 164, op := Op.call { callee := Callee.value (Operand.func 36), args := #[Operand.tmp 163, Operand.const (Value.int IntKind.i64 11)], argTypes := #[59, 3] }, type := 59, pos := "ref.go:57", after := #[{ on := 4, ground := Ground.data }, { on := 2, ground := Ground.chain }], guard := none }, { dst := some 165, op := Op.binOp BinOp.xor 59 (Operand.tmp 161) (Operand.tmp 164) 59, type := 59, pos := "ref.go:57", after := #[{ on := 2, ground := Ground.data }, { on := 5, ground := Ground.data }], guard := none }, { dst := some 166, op := Op.indexAddr 60 (Operand.tmp 15) (Operand.const (Value.int IntKind.i64 4)), type := 0, pos := "ref.go:57", after := #[], guard := none }, { dst := some 167, op := Op.load 59 (Operand.tmp 166), type := 59, pos := "ref.go:57", after := #[{ on := 7, ground := Ground.data }], guard := none }, { dst := some 168, op := Op.call { callee := Callee.value (Operand.func 36), args := #[Operand.tmp 167, Operand.const (Value.int IntKind.i64 25)], argTypes := #[59, 3] }, type := 59, pos := "ref.go:57", after := #[{ on := 8, ground := Ground.data }, { on := 5, ground := Ground.chain }], guard := none }, { dst := some 169, op := Op.binOp BinOp.xor 59 (Operand.tmp 165) (Operand.tmp 168) 59, type := 59, pos := "ref.go:57", after := #[{ on := 6, ground := Ground.data }, { on := 9, ground := Ground.data }], guard := none }, { dst := some 17, op := Op.assign (Operand.tmp 169), type := 59, pos := "ref.go:57", after := #[{ on := 10, ground := Ground.data }, { on := 9, ground := Ground.chain }, { on := 0, ground := Ground.phase }, { on := 1, ground := Ground.phase }, { on := 2, ground := Ground.phase }, { on := 3, ground := Ground.phase }, { on := 4, ground := Ground.phase }, { on := 5, ground := Ground.phase }, { on := 6, ground := Ground.phase }, { on := 7, ground := Ground.phase }, { on := 8, ground := Ground.phase }, { on := 9, ground := Ground.phase }, { on := 10, ground := Ground.phase }], guard := none }] true).seq ((Code.region 31 #[{ dst := some 170, op := Op.indexAddr 60 (Operand.tmp 15) (Operand.const (Value.int IntKind.i64 4)), type := 0, pos := "ref.go:58", after := #[], guard := none }, { dst := some 171, op := Op.load 59 (Operand.tmp 170), type := 59, pos := "ref.go:58", after := #[{ on := 0, ground := Ground.data }], guard := none }, { dst := some 172, op := Op.indexAddr 60 (Operand.tmp 15) (Operand.const (Value.int IntKind.i64 5)), type := 0, pos := "ref.go:58", after := #[], guard := none }, { dst := some 173, op := Op.load 59 (Operand.tmp 172), type := 59, pos := "ref.go:58", after := #[{ on := 2, ground := Ground.data }], guard := none }, { dst := some 174, op := Op.binOp BinOp.and 59 (Operand.tmp 171) (Operand.tmp 173) 59, type := 59, pos := "ref.go:58", after := #[{ on := 1, ground := Ground.data }, { on := 3, ground := Ground.data }], guard := none }, { dst := some 175, op := Op.indexAddr 60 (Operand.tmp 15) (Operand.const (Value.int IntKind.i64 4)), type := 0, pos := "ref.go:58", after := #[], guard := none }, { dst := some 176, op := Op.load 59 (Operand.tmp 175), type := 59, pos := "ref.go:58", after := #[{ on := 5, ground := Ground.data }], guard := none }, { dst := some 177, op := Op.unOp UnOp.xor 59 (Operand.tmp 176), type := 59, pos := "ref.go:58", after := #[{ on := 6, ground := Ground.data }], guard := none }, { dst := some 178, op := Op.indexAddr 60 (Operand.tmp 15) (Operand.const (Value.int IntKind.i64 6)), type := 0, pos := "ref.go:58", after := #[], guard := none }, { dst := some 179, op := Op.load 59 (Operand.tmp 178), type := 59, pos := "ref.go:58", after := #[{ on := 8, ground := Ground.data }], guard := none }, { dst := some 180, op := Op.binOp BinOp.and 59 (Operand.tmp 177) (Operand.tmp 179) 59, type := 59, pos := "ref.go:58", after := #[{ on := 7, ground := Ground.data }, { on := 9, ground := Ground.data }], guard := none }, { dst := some 181, op := Op.binOp BinOp.xor 59 (Operand.tmp 174) (Operand.tmp 180) 59, type := 59, pos := "ref.go:58", after := #[{ on := 4, ground := Ground.data }, { on := 10, ground := Ground.data }], guard := none }, { dst := some 18, op := Op.assign (Operand.tmp 181), type := 59, pos := "ref.go:58", after := #[{ on := 11, ground := Ground.data }, { on := 0, ground := Ground.phase }, { on := 1, ground := Ground.phase }, { on := 2, ground := Ground.phase }, { on := 3, ground := Ground.phase }, { on := 4, ground := Ground.phase }, { on := 5, ground := Ground.phase }, { on := 6, ground := Ground.phase }, { on := 7, ground := Ground.phase }, { on := 8, ground := Ground.phase }, { on := 9, ground := Ground.phase }, { on := 10, ground := Ground.phase }, { on := 11, ground := Ground.phase }], guard := none }] false).seq ((Code.region 32 #[{ dst := some 182, op := Op.indexAddr 60 (Operand.tmp 15) (Operand.const (Value.int IntKind.i64 7)), type := 0, pos := "ref.go:59", after := #[], guard := none }, { dst := some 183, op := Op.load 59 (Operand.tmp 182), type := 59, pos := "ref.go:59", after := #[{ on := 0, ground := Ground.data }], guard := none }, { dst := some 184, op := Op.move (Operand.tmp 17), type := 59, pos := "ref.go:59", after := #[], guard := none }, { dst := some 185, op := Op.binOp BinOp.add 59 (Operand.tmp 183) (Operand.tmp 184) 59, type := 59, pos := "ref.go:59", after := #[{ on := 1, ground := Ground.data }, { on := 2, ground := Ground.data }], guard := none }, { dst := some 186, op := Op.move (Operand.tmp 18), type := 59, pos := "ref.go:59", after := #[], guard := none }, { dst := some 187, op := Op.binOp BinOp.add 59 (Operand.tmp 185) (Operand.tmp 186) 59, type := 59, pos := "ref.go:59", after := #[{ on := 3, ground := Ground.data }, { on := 4, ground := Ground.data }], guard := none }, { dst := some 188, op := Op.move (Operand.tmp 16), type := 3, pos := "ref.go:59", after := #[], guard := none }, { dst := some 189, op := Op.indexAddr 62 (Operand.tmp 4) (Operand.tmp 188), type := 0, pos := "ref.go:59", after := #[{ on := 6, ground := Ground.data }], guard := none }, { dst := some 190, op := Op.load 59 (Operand.tmp 189), type := 59, pos := "ref.go:59", after := #[{ on := 7, ground := Ground.data }], guard := none }, { dst := some 191, op := Op.binOp BinOp.add 59 (Operand.tmp 187) (Operand.tmp 190) 59, type := 59, pos := "ref.go:59", after := #[{ on := 5, ground := Ground.data }, { on := 8, ground := Ground.data }], guard := none }, { dst := some 192, op := Op.move (Operand.tmp 16), type := 3, pos := "ref.go:59", after := #[], guard := none }, { dst := some 193, op := Op.indexAddr 62 (Operand.tmp 9) (Operand.tmp 192), type := 0, pos := "ref.go:59", after := #[{ on := 10, ground := Ground.data }], guard := none }, { dst := some 194, op := Op.load 59 (Operand.tmp 193), type := 59, pos := "ref.go:59", after := #[{ on := 11, ground := Ground.data }], guard := none }, { dst := some 195, op := Op.binOp BinOp.add 59 (Operand.tmp 191) (Operand.tmp 194) 59, type := 59, pos := "ref.go:59", after := #[{ on := 9, ground := Ground.data }, { on := 12, ground := Ground.data }], guard := none }, { dst := some 19, op := Op.assign (Operand.tmp 195), type := 59, pos := "ref.go:59", after := #[{ on := 13, ground := Ground.data }, { on := 0, ground := Ground.phase }, { on := 1, ground := Ground.phase }, { on := 2, ground := Ground.phase }, { on := 3, ground := Ground.phase }, { on := 4, ground := Ground.phase }, { on := 5, ground := Ground.phase }, { on := 6, ground := Ground.phase }, { on := 7, ground := Ground.phase }, { on := 8, ground := Ground.phase }, { on := 9, ground := Ground.phase }, { on := 10, ground := Ground.phase }, { on := 11, ground := Ground.phase }, { on := 12, ground := Ground.phase }, { on := 13, ground := Ground.phase }], guard := none }] true).seq ((Code.region 33 #[{ dst := some 196, op := Op.indexAddr 60 (Operand.tmp 15) (Operand.const (Value.int IntKind.i64 0)), type := 0, pos := "ref.go:60", after := #[], guard := none }, { dst := some 197, op := Op.load 59 (Operand.tmp 196), type := 59, pos := "ref.go:60", after := #[{ on := 0, ground := Ground.data }], guard := none }, { dst := some 198, op := Op.call { callee := Callee.value (Operand.func 36), args := #[Operand.tmp 197, Operand.const (Value.int IntKind.i64 2)], argTypes := #[59, 3] }, type := 59, pos := "ref.go:60", after := #[{ on := 1, ground := Ground.data }], guard := none }, { dst := some 199, op := Op.indexAddr 60 (Operand.tmp 15) (Operand.const (Value.int IntKind.i64 0)), type := 0, pos := "ref.go:60", after := #[], guard := none }, { dst := some 200, op := Op.load 59 (Operand.tmp 199), type := 59, pos := "ref.go:60", after := #[{ on := 3, ground := Ground.data }], guard := none }, { dst := some 201, op := Op.call { callee := Callee.value (Operand.func 36), args := #[Operand.tmp 200, Operand.const (Value.int IntKind.i64 13)], argTypes := #[59, 3] }, type := 59, pos := "ref.go:60", after := #[{ on := 4, ground := Ground.data }, { on := 2, ground := Ground.chain }], guard := none }, { dst := some 202, op := Op.binOp BinOp.xor 59 (Operand.tmp 198) (Operand.tmp 201) 59, type := 59, pos := "ref.go:60", after := #[{ on := 2, ground := Ground.data }, { on := 5, ground := Ground.data }], guard := none }, { dst := some 203, op := Op.indexAddr 60 (Operand.tmp 15) (Operand.const (Value.int IntKind.i64 0)), type := 0, pos := "ref.go:60", after := #[], guard := none }, { dst := some 204, op := Op.load 59 (Operand.tmp 203), type := 59, pos := "ref.go:60", after := #[{ on := 7, ground := Ground.data }], guard := none }, { dst := some 205, op := Op.call { callee := Callee.value (Operand.func 36), args := #[Operand.tmp 204, Operand.const (Value.int IntKind.i64 22)], argTypes := #[59, 3] }, type := 59, pos := "ref.go:60", after := #[{ on := 8, ground := Ground.data }, { on := 5, ground := Ground.chain }], guard := none }, { dst := some 206, op := Op.binOp BinOp.xor 59 (Operand.tmp 202) (Operand.tmp 205) 59, type := 59, pos := "ref.go:60", after := #[{ on := 6, ground := Ground.data }, { on := 9, ground := Ground.data }], guard := none }, { dst := some 20, op := Op.assign (Operand.tmp 206), type := 59, pos := "ref.go:60", after := #[{ on := 10, ground := Ground.data }, { on := 9, ground := Ground.chain }, { on := 0, ground := Ground.phase }, { on := 1, ground := Ground.phase }, { on := 2, ground := Ground.phase }, { on := 3, ground := Ground.phase }, { on := 4, ground := Ground.phase }, { on := 5, ground := Ground.phase }, { on := 6, ground := Ground.phase }, { on := 7, ground := Ground.phase }, { on := 8, ground := Ground.phase }, { on := 9, ground := Ground.phase }, { on := 10, ground := Ground.phase }], guard := none }] true).seq ((Code.region 34 #[{ dst := some 207, op := Op.indexAddr 60 (Operand.tmp 15) (Operand.const (Value.int IntKind.i64 0)), type := 0, pos := "ref.go:61", after := #[], guard := none }, { dst := some 208, op := Op.load 59 (Operand.tmp 207), type := 59, pos := "ref.go:61", after := #[{ on := 0, ground := Ground.data }], guard := none }, { dst := some 209, op := Op.indexAddr 60 (Operand.tmp 15) (Operand.const (Value.int IntKind.i64 1)), type := 0, pos := "ref.go:61", after := #[], guard := none }, { dst := some 210, op := Op.load 59 (Operand.tmp 209), type := 59, pos := "ref.go:61", after := #[{ on := 2, ground := Ground.data }], guard := none }, { dst := some 211, op := Op.binOp BinOp.and 59 (Operand.tmp 208) (Operand.tmp 210) 59, type := 59, pos := "ref.go:61", after := #[{ on := 1, ground := Ground.data }, { on := 3, ground := Ground.data }], guard := none }, { dst := some 212, op := Op.indexAddr 60 (Operand.tmp 15) (Operand.const (Value.int IntKind.i64 0)), type := 0, pos := "ref.go:61", after := #[], guard := none }, { dst := some 213, op := Op.load 59 (Operand.tmp 212), type := 59, pos := "ref.go:61", after := #[{ on := 5, ground := Ground.data }], guard := none }, { dst := some 214, op := Op.indexAddr 60 (Operand.tmp 15) (Operand.const (Value.int IntKind.i64 2)), type := 0, pos := "ref.go:61", after := #[], guard := none }, { dst := some 215, op := Op.load 59 (Operand.tmp 214), type := 59, pos := "ref.go:61", after := #[{ on := 7, ground := Ground.data }], guard := none }, { dst := some 216, op := Op.binOp BinOp.and 59 (Operand.tmp 213) (Operand.tmp 215) 59, type := 59, pos := "ref.go:61", after := #[{ on := 6, ground := Ground.data }, { on := 8, ground := Ground.data }], guard := none }, { dst := some 217, op := Op.binOp BinOp.xor 59 (Operand.tmp 211) (Operand.tmp 216) 59, type := 59, pos := "ref.go:61", after := #[{ on := 4, ground := Ground.data }, { on := 9, ground := Ground.data }], guard := none }, { dst := some 218, op := Op.indexAddr 60 (Operand.tmp 15) (Operand.const (Value.int IntKind.i64 1)), type := 0, pos := "ref.go:61", after := #[], guard := none }, { dst := some 219, op := Op.load 59 (Operand.tmp 218), type := 59, pos := "ref.go:61", after := #[{ on := 11, ground := Ground.data }], guard := none }, { dst := some 220, op := Op.indexAddr 60 (Operand.tmp 15) (Operand.const (Value.int IntKind.i64 2)), type := 0, pos := "ref.go:61", after := #[], guard := none }, { dst := some 221, op := Op.load 59 (Operand.tmp 220), type := 59, pos := "ref.go:61", after := #[{ on := 13, ground := Ground.data }], guard := none }, { dst := some 222, op := Op.binOp BinOp.and 59 (Operand.tmp 219) (Operand.tmp 221) 59, type := 59, pos := "ref.go:61", after := #[{ on := 12, ground := Ground.data }, { on := 14, ground := Ground.data }], guard := none }, { dst := some 223, op := Op.binOp BinOp.xor 59 (Operand.tmp 217) (Operand.tmp 222) 59, type := 59, pos := "ref.go:61", after := #[{ on := 10, ground := Ground.data }, { on := 15, ground := Ground.data }], guard := none }, { dst := some 21, op := Op.assign (Operand.tmp 223), type := 59, pos := "ref.go:61", after := #[{ on := 16, ground := Ground.data }, { on := 0, ground := Ground.phase }, { on := 1, ground := Ground.phase }, { on := 2, ground := Ground.phase }, { on := 3, ground := Ground.phase }, { on := 4, ground := Ground.phase }, { on := 5, ground := Ground.phase }, { on := 6, ground := Ground.phase }, { on := 7, ground := Ground.phase }, { on := 8, ground := Ground.phase }, { on := 9, ground := Ground.phase }, { on := 10, ground := Ground.phase }, { on := 11, ground := Ground.phase }, { on := 12, ground := Ground.phase }, { on := 13, ground := Ground.phase }, { on := 14, ground := Ground.phase }, { on := 15, ground := Ground.phase }, { on := 16, ground := Ground.phase }], guard := none }] false).seq (Code.region 35 #[{ dst := some 224, op := Op.move (Operand.tmp 19), type := 59, pos := "ref.go:62", after := #[], guard := none }, { dst := some 225, op := Op.move (Operand.tmp 20), type := 59, pos := "ref.go:62", after := #[], guard := none }, { dst := some 226, op := Op.binOp BinOp.add 59 (Operand.tmp 224) (Operand.tmp 225) 59, type := 59, pos := "ref.go:62", after := #[{ on := 0, ground := Ground.data }, { on := 1, ground := Ground.data }], guard := none }, { dst := some 227, op := Op.move (Operand.tmp 21), type := 59, pos := "ref.go:62", after := #[], guard := none }, { dst := some 228, op := Op.binOp BinOp.add 59 (Operand.tmp 226) (Operand.tmp 227) 59, type := 59, pos := "ref.go:62", after := #[{ on := 2, ground := Ground.data }, { on := 3, ground := Ground.data }], guard := none }, { dst := some 229, op := Op.indexAddr 60 (Operand.tmp 15) (Operand.const (Value.int IntKind.i64 0)), type := 0, pos := "ref.go:62", after := #[], guard := none }, { dst := some 230, op := Op.load 59 (Operand.tmp 229), type := 59, pos := "ref.go:62", after := #[{ on := 5, ground := Ground.data }], guard := none }, { dst := some 231, op := Op.indexAddr 60 (Operand.tmp 15) (Operand.const (Value.int IntKind.i64 1)), type := 0, pos := "ref.go:62", after := #[], guard := none }, { dst := some 232, op := Op.load 59 (Operand.tmp 231), type := 59, pos := "ref.go:62", after := #[{ on := 7, ground := Ground.data }], guard := none }, { dst := some 233, op := Op.indexAddr 60 (Operand.tmp 15) (Operand.const (Value.int IntKind.i64 2)), type := 0, pos := "ref.go:62", after := #[], guard := none }, { dst := some 234, op := Op.load 59 (Operand.tmp 233), type := 59, pos := "ref.go:62", after := #[{ on := 9, ground := Ground.data }], guard := none }, { dst := some 235, op := Op.indexAddr 60 (Operand.tmp 15) (Operand.const (Value.int IntKind.i64 3)), type := 0, pos := "ref.go:62", after := #[], guard := none }, { dst := some 236, op := Op.load 59 (Operand.tmp 235), type := 59, pos := "ref.go:62", after := #[{ on := 11, ground := Ground.data }], guard := none }, { dst := some 237, op := Op.move (Operand.tmp 19), type := 59, pos := "ref.go:62", after := #[], guard := none }, { dst := some 238, op := Op.binOp BinOp.add 59 (Operand.tmp 236) (Operand.tmp 237) 59, type := 59, pos := "ref.go:62", after := #[{ on := 12, ground := Ground.data }, { on := 13, ground := Ground.data }], guard := none }, { dst := some 239, op := Op.indexAddr 60 (Operand.tmp 15) (Operand.const (Value.int IntKind.i64 4)), type := 0, pos := "ref.go:62", after := #[], guard := none }, { dst := some 240, op := Op.load 59 (Operand.tmp 239), type := 59, pos := "ref.go:62", after := #[{ on := 15, ground := Ground.data }], guard := none }, { dst := some 241, op := Op.indexAddr 60 (Operand.tmp 15) (Operand.const (Value.int IntKind.i64 5)), type := 0, pos := "ref.go:62", after := #[], guard := none }, { dst := some 242, op := Op.load 59 (Operand.tmp 241), type := 59, pos := "ref.go:62", after := #[{ on := 17, ground := Ground.data }], guard := none }, { dst := some 243, op := Op.indexAddr 60 (Operand.tmp 15) (Operand.const (Value.int IntKind.i64 6)), type := 0, pos := "ref.go:62", after := #[], guard := none }, { dst := some 244, op := Op.load 59 (Operand.tmp 243), type := 59, pos := "ref.go:62", after := #[{ on := 19, ground := Ground.data }], guard := none }, { dst := some 245, op := Op.build 60 #[(0, Operand.tmp 228), (1, Operand.tmp 230), (2, Operand.tmp 232), (3, Operand.tmp 234), (4, Operand.tmp 238), (5, Operand.tmp 240), (6, Operand.tmp 242), (7, Operand.tmp 244)], type := 60, pos := "ref.go:62", after := #[{ on := 4, ground := Ground.data }, { on := 6, ground := Ground.data }, { on := 8, ground := Ground.data }, { on := 10, ground := Ground.data }, { on := 14, ground := Ground.data }, { on := 16, ground := Ground.data }, { on := 18, ground := Ground.data }, { on := 20, ground := Ground.data }], guard := none }, { dst := none, op := Op.store 60 (Operand.tmp 15) (Operand.tmp 245), type := 0, pos := "ref.go:62", after := #[{ on := 21, ground := Ground.data }, { on := 0, ground := Ground.phase }, { on := 1, ground := Ground.phase }, { on := 2, ground := Ground.phase }, { on := 3, ground := Ground.phase }, { on := 4, ground := Ground.phase }, { on := 5, ground := Ground.phase }, { on := 6, ground := Ground.phase }, { on := 7, ground := Ground.phase }, { on := 8, ground := Ground.phase }, { on := 9, ground := Ground.phase }, { on := 10, ground := Ground.phase }, { on := 11, ground := Ground.phase }, { on := 12, ground := Ground.phase }, { on := 13, ground := Ground.phase }, { on := 14, ground := Ground.phase }, { on := 15, ground := Ground.phase }, { on := 16, ground := Ground.phase }, { on := 17, ground := Ground.phase }, { on := 18, ground := Ground.phase }, { on := 19, ground := Ground.phase }, { on := 20, ground := Ground.phase }, { on := 21, ground := Ground.phase }], guard := none }] false))))))).seq (Code.region 29 #[{ dst := some 157, op := Op.move (Operand.tmp 16), type := 3, pos := "ref.go:56", after := #[], guard := none }, { dst := some 158, op := Op.binOp BinOp.add 3 (Operand.tmp 157) (Operand.const (Value.int IntKind.i64 1)) 3, type := 3, pos := "ref.go:56", after := #[{ on := 0, ground := Ground.data }], guard := none }, { dst := some 16, op := Op.assign (Operand.tmp 158), type := 3, pos := "ref.go:56", after := #[{ on := 1, ground := Ground.data }, { on := 0, ground := Ground.phase }, { on := 1, ground := Ground.phase }], guard := none }] false))).loop)).seq ((Code.region 36 #[{ dst := some 22, op := Op.assign (Operand.const (Value.int IntKind.i64 0)), type := 3, pos := "ref.go:64", after := #[], guard := none }] false).seq (Code.block 12 (((Code.region 37 #[{ dst := some 246, op := Op.move (Operand.tmp 22), type := 3, pos := "ref.go:64", after := #[], guard := none }, { dst := some 247, op := Op.binOp BinOp.lss 3 (Operand.tmp 246) (Operand.const (Value.int IntKind.i64 8)) 3, type := 4, pos := "ref.go:64", after := #[{ on := 0, ground := Ground.data }], guard := none }] false).seq (Code.cond (Operand.tmp 247) Code.skip (Code.exit 12))).seq ((Code.block 13 (Code.region 39 #[{ dst := some 250, op := Op.move (Operand.tmp 22), type := 3, pos := "ref.go:65", after := #[], guard := none }, { dst := some 251, op := Op.move (Operand.tmp 22), type := 3, pos := "ref.go:65", after := #[], guard := none }, { dst := some 252, op := Op.indexAddr 60 (Operand.tmp 3) (Operand.tmp 251), type := 0, pos := "ref.go:65", after := #[{ on := 1, ground := Ground.data }], guard := none }, { dst := some 253, op := Op.load 59 (Operand.tmp 252), type := 59, pos := "ref.go:65", after := #[{ on := 2, ground := Ground.data }], guard := none }, { dst := some 254, op := Op.move (Operand.tmp 22), type := 3, pos := "ref.go:65", after := #[], guard := none }, { dst := some 255, op := Op.indexAddr 60 (Operand.tmp 15) (Operand.tmp 254), type := 0, pos := "ref.go:65", after := #[{ on := 4, ground := Ground.data }], guard := none }, { dst := some 256, op := Op.load 59 (Operand.tmp 255), type := 59, pos := "ref.go:65", after := #[{ on := 5, ground := Ground.data }], guard := none }, { dst := some 257, op := Op.binOp BinOp.add 59 (Operand.tmp 253) (Operand.tmp 256) 59, type := 59, pos := "ref.go:65", after := #[{ on := 3, ground := Ground.data }, { on := 6, ground := Ground.data }], guard := none }, { dst := some 258, op := Op.indexAddr 60 (Operand.tmp 3) (Operand.tmp 250), type := 0, pos := "ref.go:65", after := #[{ on := 0, ground := Ground.data }, { on := 0, ground := Ground.phase }, { on := 1, ground := Ground.phase }, { on := 2, ground := Ground.phase }, { on := 3, ground := Ground.phase }, { on := 4, ground := Ground.phase }, { on := 5, ground := Ground.phase }, { on := 6, ground := Ground.phase }, { on := 7, ground := Ground.phase }], guard := none }, { dst := none, op := Op.store 59 (Operand.tmp 258) (Operand.tmp 257), type := 0, pos := "ref.go:65", after := #[{ on := 8, ground := Ground.data }, { on := 7, ground := Ground.data }, { on := 0, ground := Ground.phase }, { on := 1, ground := Ground.phase }, { on := 2, ground := Ground.phase }, { on := 3, ground := Ground.phase }, { on := 4, ground := Ground.phase }, { on := 5, ground := Ground.phase }, { on := 6, ground := Ground.phase }, { on := 7, ground := Ground.phase }], guard := none }] true)).seq (Code.region 38 #[{ dst := some 248, op := Op.move (Operand.tmp 22), type := 3, pos := "ref.go:64", after := #[], guard := none }, { dst := some 249, op := Op.binOp BinOp.add 3 (Operand.tmp 248) (Operand.const (Value.int IntKind.i64 1)) 3, type := 3, pos := "ref.go:64", after := #[{ on := 0, ground := Ground.data }], guard := none }, { dst := some 22, op := Op.assign (Operand.tmp 249), type := 3, pos := "ref.go:64", after := #[{ on := 1, ground := Ground.data }, { on := 0, ground := Ground.phase }, { on := 1, ground := Ground.phase }], guard := none }] false))).loop)))))))) Q ⟨#[s0, s1, s2, .pointer (some ⟨H, 0, none⟩), .pointer (some ⟨K, 0, none⟩), .slice (some ⟨T, 0, none⟩) n c5, s6, s7, .int .i64 (at_ : Int), s9, s10, s11, s12, s13, s14, s15, s16, s17, s18, s19, s20, s21, s22, s23, s24, s25, s26, s27, s28, s29, s30, s31, s32, s33, s34, s35, s36, s37, s38, s39, s40, s41, s42, s43, s44, s45, s46, s47, s48, s49, s50, s51, s52, s53, s54, s55, s56, s57, s58, s59, s60, s61, s62, s63, s64, s65, s66, s67, s68, s69, s70, s71, s72, s73, s74, s75, s76, s77, s78, s79, s80, s81, s82, s83, s84, s85, s86, s87, s88, s89, s90, s91, s92, s93, s94, s95, s96, s97, s98, s99, s100, s101, s102, s103, s104, s105, s106, s107, s108, s109, s110, s111, s112, s113, s114, s115, s116, s117, s118, s119, s120, s121, s122, s123, s124, s125, s126, s127, s128, s129, s130, s131, s132, s133, s134, s135, s136, s137, s138, s139, s140, s141, s142, s143, s144, s145, s146, s147, s148, s149, s150, s151, s152, s153, s154, s155, s156, s157, s158, s159, s160, s161, s162, s163, s164, s165, s166, s167, s168, s169, s170, s171, s172, s173, s174, s175, s176, s177, s178, s179, s180, s181, s182, s183, s184, s185, s186, s187, s188, s189, s190, s191, s192, s193, s194, s195, s196, s197, s198, s199, s200, s201, s202, s203, s204, s205, s206, s207, s208, s209, s210, s211, s212, s213, s214, s215, s216, s217, s218, s219, s220, s221, s222, s223, s224, s225, s226, s227, s228, s229, s230, s231, s232, s233, s234, s235, s236, s237, s238, s239, s240, s241, s242, s243, s244, s245, s246, s247, s248, s249, s250, s251, s252, s253, s254, s255, s256, s257, s258, s259, s260, s261, s262, s263, s264, s265, s266, s267, s268, s269, s270, s271, s272, s273, s274, s275, s276], []⟩ w := by
  have HH := Lib.hid hH
  have HK := Lib.hid hK
  have HR := Lib.hid hr
  have HS := Lib.hid hs
  have HM := Lib.hid hm
  have HAT := Lib.hid hat
  have HN := Lib.hid hn
  have HQ := Lib.hid hQ
  have HP := Lib.hid hP
  have HTL := Lib.hid hT
  have a0 : (0 : Int) ≤ (at_ : Int) := Int.natCast_nonneg _
  have n0' : (0 : Int) ≤ (n : Int) := Int.natCast_nonneg _
  have n1' : (n : Int) ≤ 2000 := by omega
  clear hH hK hr hs hm hat hn hQ hP hT
  go_upto_region 15 with fail
  have B0 := (Below.refl w.heap.size w).alloc (Nat.le_refl _) (.cells (arr 64 []) 62)
  have X0 : Blk (w.alloc (.cells (arr 64 []) 62)) w.heap.size 62 (arr 64 []) := heap_alloc_new _ _
  obtain ⟨W0, hW0⟩ : ∃ W0, W0 = w.alloc (.cells (arr 64 []) 62) := ⟨_, rfl⟩
  obtain ⟨X, hX⟩ : ∃ X, X = w.heap.size := ⟨_, rfl⟩
  have HXX := Lib.hid hX
  show Code.wp Try.prog _ _ _ (w.alloc (.cells (arr 64 []) 62))
  rw [← hW0, ← hX] at X0
  rw [← hW0, ← hX] at B0
  rw [← hW0]
  rw [← hX]
  clear hX hW0
  go_wp2_with fail
  go_loopw [10] (fun s10 wr => ∃ i : Nat, s10 = .int .i64 i ∧ i ≤ 16 ∧ Hid (Blk wr X 62 (arr 64 (wordsOf m i))) ∧ Hid (Below X w wr)) (fun s10 _ => 16 - (intOf s10).toNat)
  case atStart => exact ⟨0, rfl, by omega, Lib.hid X0, Lib.hid B0⟩
  case round =>
    clear X0 B0
    obtain ⟨i, rfl, hi, hb, hB⟩ := hrel
    have i0 : (0 : Int) ≤ (i : Int) := Int.natCast_nonneg _
    by_cases hlt : i < 16
    · have i1 : (i : Int) < 16 := by omega
      obtain ⟨p0, hp0⟩ : ∃ p, p = 4 * i := ⟨_, rfl⟩
      obtain ⟨p1, hp1⟩ : ∃ p, p = 4 * i + 1 := ⟨_, rfl⟩
      obtain ⟨p2, hp2⟩ : ∃ p, p = 4 * i + 2 := ⟨_, rfl⟩
      obtain ⟨p3, hp3⟩ : ∃ p, p = 4 * i + 3 := ⟨_, rfl⟩
      obtain ⟨P0, hP0⟩ : ∃ p, p = at_ + p0 := ⟨_, rfl⟩
      obtain ⟨P1, hP1⟩ : ∃ p, p = at_ + p1 := ⟨_, rfl⟩
      obtain ⟨P2, hP2⟩ : ∃ p, p = at_ + p2 := ⟨_, rfl⟩
      obtain ⟨P3, hP3⟩ : ∃ p, p = at_ + p3 := ⟨_, rfl⟩
      have hTX : T < X := by rw [HXX.out]; exact HTL.out
      have cell : ∀ p, p < 64 → wr.cell? ⟨T, at_ + p, none⟩ = some (.int .u8 (byteAt m p : Int)) := fun p hp => by
        have hpm : p < m.length := by rw [HM.out]; exact hp
        have h0 := HR.out p _ (List.getElem?_eq_getElem hpm)
        have e : byteAt m p = (m[p]).toNat := by unfold byteAt; rw [List.getElem?_eq_getElem hpm]; rfl
        rw [e, ← h0]
        have := hB.out.block T hTX
        simp only [World.cell?, this]
      have x0 : wr.cell? ⟨T, P0, none⟩ = some (.int .u8 (byteAt m p0 : Int)) := by rw [hP0]; exact cell p0 (by omega)
      have x1 : wr.cell? ⟨T, P1, none⟩ = some (.int .u8 (byteAt m p1 : Int)) := by rw [hP1]; exact cell p1 (by omega)
      have x2 : wr.cell? ⟨T, P2, none⟩ = some (.int .u8 (byteAt m p2 : Int)) := by rw [hP2]; exact cell p2 (by omega)
      have x3 : wr.cell? ⟨T, P3, none⟩ = some (.int .u8 (byteAt m p3 : Int)) := by rw [hP3]; exact cell p3 (by omega)
      have hw := word_go (byteAt_lt m p0) (byteAt_lt m p1) (byteAt_lt m p2) (byteAt_lt m p3)
      have HW : Hid (wordsOf m (i + 1) = wordsOf m i ++ [word (byteAt m p0) (byteAt m p1) (byteAt m p2) (byteAt m p3)]) := Lib.hid (by rw [hp0, hp1, hp2, hp3]; rfl)
      have l0 := byteAt_lt m p0
      have l1 := byteAt_lt m p1
      have l2 := byteAt_lt m p2
      have l3 := byteAt_lt m p3
      generalize byteAt m p0 = b0 at *
      generalize byteAt m p1 = b1 at *
      generalize byteAt m p2 = b2 at *
      generalize byteAt m p3 = b3 at *
      have hat := HAT.out
      have e0 : IntKind.i64.wrap (4 * (i : Int)) = (p0 : Int) := by rw [IntKind.wrap_i64]; omega
      have e1 : IntKind.i64.wrap ((at_ : Int) + (p0 : Int)) = (P0 : Int) := by rw [IntKind.wrap_i64]; omega
      have e2 : IntKind.i64.wrap ((P0 : Int) + 1) = (P1 : Int) := by rw [IntKind.wrap_i64]; omega
      have e3 : IntKind.i64.wrap ((P0 : Int) + 2) = (P2 : Int) := by rw [IntKind.wrap_i64]; omega
      have e4 : IntKind.i64.wrap ((P0 : Int) + 3) = (P3 : Int) := by rw [IntKind.wrap_i64]; omega
      have m0 : (b0 : Int) < 256 := by omega
      have m1 : (b1 : Int) < 256 := by omega
      have m2 : (b2 : Int) < 256 := by omega
      have m3 : (b3 : Int) < 256 := by omega
      have q0 : (P0 : Int) < (n : Int) := by omega
      have q1 : (P1 : Int) < (n : Int) := by omega
      have q2 : (P2 : Int) < (n : Int) := by omega
      have q3 : (P3 : Int) < (n : Int) := by omega
      have i2 : (i : Int) < 64 := by omega
      have r0 : IntKind.u32.wrap (b0 : Int) = (b0 : Int) := by rw [IntKind.wrap_u32']; omega
      have r1 : IntKind.u32.wrap (b1 : Int) = (b1 : Int) := by rw [IntKind.wrap_u32']; omega
      have r2 : IntKind.u32.wrap (b2 : Int) = (b2 : Int) := by rw [IntKind.wrap_u32']; omega
      have r3 : IntKind.u32.wrap (b3 : Int) = (b3 : Int) := by rw [IntKind.wrap_u32']; omega
      have s0' : IntKind.u32.wrap ((b0 : Int) * 16777216) = (b0 : Int) * 16777216 := by rw [IntKind.wrap_u32']; omega
      have s1' : IntKind.u32.wrap ((b1 : Int) * 65536) = (b1 : Int) * 65536 := by rw [IntKind.wrap_u32']; omega
      have s2' : IntKind.u32.wrap ((b2 : Int) * 256) = (b2 : Int) * 256 := by rw [IntKind.wrap_u32']; omega
      have hXg : X ≠ T := by omega
      have hc : wr.cell? ⟨X, i, none⟩ = some (.int .u32 0) := by rw [hb.out.cell, arr_zero (by rw [wordsOf_len]; omega) (by omega)]
      have hf := hb.out.frozen i
      have HLT := Lib.hid hlt
      clear hp0 hp1 hp2 hp3 hP0 hP1 hP2 hP3 cell l0 l1 l2 l3 hat hTX hlt hi
      go_upto_region 19 with fail
      refine wp_region_held_drew (S := fun w' => w'.cell? ⟨T, P0, none⟩ = some (.int .u8 (b0 : Int)) ∧ w'.cell? ⟨T, P1, none⟩ = some (.int .u8 (b1 : Int)) ∧ w'.cell? ⟨T, P2, none⟩ = some (.int .u8 (b2 : Int)) ∧ w'.cell? ⟨T, P3, none⟩ = some (.int .u8 (b3 : Int))) (by kernel_rfl) (⟨x0, x1, x2, x3⟩) (fun hHeld => ?_)
      refine wpAnyH_take (i := 0) (oi := { dst := some 70, op := Op.move (Operand.tmp 10), type := 3, pos := "ref.go:48", after := #[], guard := none }) (v := ?vp0) rfl (by kernel_rfl) (by kernel_rfl) (by kernel_rfl) (fun _ _ _ h => HP.out _ _ _ _ _ h) (Or.inl ⟨by rfl, ?yp0⟩) (by assumption) ?rp0
      case yp0 => (intro w' hSw; (try dsimp only at hSw); go_simp; try with_reducible rfl)
      try simp only [Act.put, List.setIfInBounds_toArray, List.set_cons_zero, List.set_cons_succ]
      refine wpAnyH_take (i := 1) (oi := { dst := some 71, op := Op.move (Operand.tmp 5), type := 22, pos := "ref.go:48", after := #[], guard := none }) (v := ?vp1) rfl (by kernel_rfl) (by kernel_rfl) (by kernel_rfl) (fun _ _ _ h => HP.out _ _ _ _ _ h) (Or.inl ⟨by rfl, ?yp1⟩) (by assumption) ?rp1
      case yp1 => (intro w' hSw; (try dsimp only at hSw); go_simp; try with_reducible rfl)
      try simp only [Act.put, List.setIfInBounds_toArray, List.set_cons_zero, List.set_cons_succ]
      refine wpAnyH_take (i := 2) (oi := { dst := some 72, op := Op.move (Operand.tmp 11), type := 3, pos := "ref.go:48", after := #[], guard := none }) (v := ?vp2) rfl (by kernel_rfl) (by kernel_rfl) (by kernel_rfl) (fun _ _ _ h => HP.out _ _ _ _ _ h) (Or.inl ⟨by rfl, ?yp2⟩) (by assumption) ?rp2
      case yp2 => (intro w' hSw; (try dsimp only at hSw); go_simp; try with_reducible rfl)
      try simp only [Act.put, List.setIfInBounds_toArray, List.set_cons_zero, List.set_cons_succ]
      refine wpAnyH_take (i := 3) (oi := { dst := some 73, op := Op.indexAddr 22 (Operand.tmp 71) (Operand.tmp 72), type := 0, pos := "ref.go:48", after := #[{ on := 1, ground := Ground.data }, { on := 2, ground := Ground.data }], guard := none }) (v := ?vp3) rfl (by kernel_rfl) (by kernel_rfl) (by kernel_rfl) (fun _ _ _ h => HP.out _ _ _ _ _ h) (Or.inl ⟨by rfl, ?yp3⟩) (by assumption) ?rp3
      case yp3 => (intro w' hSw; (try dsimp only at hSw); go_simp; try with_reducible rfl)
      try simp only [Act.put, List.setIfInBounds_toArray, List.set_cons_zero, List.set_cons_succ]
      refine wpAnyH_take (i := 4) (oi := { dst := some 74, op := Op.load 5 (Operand.tmp 73), type := 5, pos := "ref.go:48", after := #[{ on := 3, ground := Ground.data }], guard := none }) (v := ?vp4) rfl (by kernel_rfl) (by kernel_rfl) (by kernel_rfl) (fun _ _ _ h => HP.out _ _ _ _ _ h) (Or.inl ⟨by rfl, ?yp4⟩) (by assumption) ?rp4
      case yp4 => (intro w' hSw; (try dsimp only at hSw); go_simp; try with_reducible rfl)
      try simp only [Act.put, List.setIfInBounds_toArray, List.set_cons_zero, List.set_cons_succ]
      refine wpAnyH_take (i := 5) (oi := { dst := some 75, op := Op.convert 5 59 (Operand.tmp 74), type := 59, pos := "ref.go:48", after := #[{ on := 4, ground := Ground.data }], guard := none }) (v := ?vp5) rfl (by kernel_rfl) (by kernel_rfl) (by kernel_rfl) (fun _ _ _ h => HP.out _ _ _ _ _ h) (Or.inl ⟨by rfl, ?yp5⟩) (by assumption) ?rp5
      case yp5 => (intro w' hSw; (try dsimp only at hSw); go_simp; try with_reducible rfl)
      try simp only [Act.put, List.setIfInBounds_toArray, List.set_cons_zero, List.set_cons_succ]
      refine wpAnyH_take (i := 6) (oi := { dst := some 76, op := Op.binOp BinOp.shl 59 (Operand.tmp 75) (Operand.const (Value.int IntKind.u64 24)) 68, type := 59, pos := "ref.go:48", after := #[{ on := 5, ground := Ground.data }], guard := none }) (v := ?vp6) rfl (by kernel_rfl) (by kernel_rfl) (by kernel_rfl) (fun _ _ _ h => HP.out _ _ _ _ _ h) (Or.inl ⟨by rfl, ?yp6⟩) (by assumption) ?rp6
      case yp6 => (intro w' hSw; (try dsimp only at hSw); go_simp; try with_reducible rfl)
      try simp only [Act.put, List.setIfInBounds_toArray, List.set_cons_zero, List.set_cons_succ]
      refine wpAnyH_take (i := 7) (oi := { dst := some 77, op := Op.move (Operand.tmp 5), type := 22, pos := "ref.go:48", after := #[], guard := none }) (v := ?vp7) rfl (by kernel_rfl) (by kernel_rfl) (by kernel_rfl) (fun _ _ _ h => HP.out _ _ _ _ _ h) (Or.inl ⟨by rfl, ?yp7⟩) (by assumption) ?rp7
      case yp7 => (intro w' hSw; (try dsimp only at hSw); go_simp; try with_reducible rfl)
      try simp only [Act.put, List.setIfInBounds_toArray, List.set_cons_zero, List.set_cons_succ]
      refine wpAnyH_take (i := 8) (oi := { dst := some 78, op := Op.move (Operand.tmp 11), type := 3, pos := "ref.go:48", after := #[], guard := none }) (v := ?vp8) rfl (by kernel_rfl) (by kernel_rfl) (by kernel_rfl) (fun _ _ _ h => HP.out _ _ _ _ _ h) (Or.inl ⟨by rfl, ?yp8⟩) (by assumption) ?rp8
      case yp8 => (intro w' hSw; (try dsimp only at hSw); go_simp; try with_reducible rfl)
      try simp only [Act.put, List.setIfInBounds_toArray, List.set_cons_zero, List.set_cons_succ]
      refine wpAnyH_take (i := 9) (oi := { dst := some 79, op := Op.binOp BinOp.add 3 (Operand.tmp 78) (Operand.const (Value.int IntKind.i64 1)) 3, type := 3, pos := "ref.go:48", after := #[{ on := 8, ground := Ground.data }], guard := none }) (v := ?vp9) rfl (by kernel_rfl) (by kernel_rfl) (by kernel_rfl) (fun _ _ _ h => HP.out _ _ _ _ _ h) (Or.inl ⟨by rfl, ?yp9⟩) (by assumption) ?rp9
      case yp9 => (intro w' hSw; (try dsimp only at hSw); go_simp; try with_reducible rfl)
      try simp only [Act.put, List.setIfInBounds_toArray, List.set_cons_zero, List.set_cons_succ]
      refine wpAnyH_take (i := 10) (oi := { dst := some 80, op := Op.indexAddr 22 (Operand.tmp 77) (Operand.tmp 79), type := 0, pos := "ref.go:48", after := #[{ on := 7, ground := Ground.data }, { on := 9, ground := Ground.data }], guard := none }) (v := ?vp10) rfl (by kernel_rfl) (by kernel_rfl) (by kernel_rfl) (fun _ _ _ h => HP.out _ _ _ _ _ h) (Or.inl ⟨by rfl, ?yp10⟩) (by assumption) ?rp10
      case yp10 => (intro w' hSw; (try dsimp only at hSw); go_simp; try with_reducible rfl)
      try simp only [Act.put, List.setIfInBounds_toArray, List.set_cons_zero, List.set_cons_succ]
      refine wpAnyH_take (i := 11) (oi := { dst := some 81, op := Op.load 5 (Operand.tmp 80), type := 5, pos := "ref.go:48", after := #[{ on := 10, ground := Ground.data }], guard := none }) (v := ?vp11) rfl (by kernel_rfl) (by kernel_rfl) (by kernel_rfl) (fun _ _ _ h => HP.out _ _ _ _ _ h) (Or.inl ⟨by rfl, ?yp11⟩) (by assumption) ?rp11
      case yp11 => (intro w' hSw; (try dsimp only at hSw); go_simp; try with_reducible rfl)
      try simp only [Act.put, List.setIfInBounds_toArray, List.set_cons_zero, List.set_cons_succ]
      refine wpAnyH_take (i := 12) (oi := { dst := some 82, op := Op.convert 5 59 (Operand.tmp 81), type := 59, pos := "ref.go:48", after := #[{ on := 11, ground := Ground.data }], guard := none }) (v := ?vp12) rfl (by kernel_rfl) (by kernel_rfl) (by kernel_rfl) (fun _ _ _ h => HP.out _ _ _ _ _ h) (Or.inl ⟨by rfl, ?yp12⟩) (by assumption) ?rp12
      case yp12 => (intro w' hSw; (try dsimp only at hSw); go_simp; try with_reducible rfl)
      try simp only [Act.put, List.setIfInBounds_toArray, List.set_cons_zero, List.set_cons_succ]
      refine wpAnyH_take (i := 13) (oi := { dst := some 83, op := Op.binOp BinOp.shl 59 (Operand.tmp 82) (Operand.const (Value.int IntKind.u64 16)) 68, type := 59, pos := "ref.go:48", after := #[{ on := 12, ground := Ground.data }], guard := none }) (v := ?vp13) rfl (by kernel_rfl) (by kernel_rfl) (by kernel_rfl) (fun _ _ _ h => HP.out _ _ _ _ _ h) (Or.inl ⟨by rfl, ?yp13⟩) (by assumption) ?rp13
      case yp13 => (intro w' hSw; (try dsimp only at hSw); go_simp; try with_reducible rfl)
      try simp only [Act.put, List.setIfInBounds_toArray, List.set_cons_zero, List.set_cons_succ]
      refine wpAnyH_take (i := 14) (oi := { dst := some 84, op := Op.binOp BinOp.or 59 (Operand.tmp 76) (Operand.tmp 83) 59, type := 59, pos := "ref.go:48", after := #[{ on := 6, ground := Ground.data }, { on := 13, ground := Ground.data }], guard := none }) (v := ?vp14) rfl (by kernel_rfl) (by kernel_rfl) (by kernel_rfl) (fun _ _ _ h => HP.out _ _ _ _ _ h) (Or.inl ⟨by rfl, ?yp14⟩) (by assumption) ?rp14
      case yp14 => (intro w' hSw; (try dsimp only at hSw); go_simp; try with_reducible rfl)
      try simp only [Act.put, List.setIfInBounds_toArray, List.set_cons_zero, List.set_cons_succ]
      refine wpAnyH_take (i := 15) (oi := { dst := some 85, op := Op.move (Operand.tmp 5), type := 22, pos := "ref.go:48", after := #[], guard := none }) (v := ?vp15) rfl (by kernel_rfl) (by kernel_rfl) (by kernel_rfl) (fun _ _ _ h => HP.out _ _ _ _ _ h) (Or.inl ⟨by rfl, ?yp15⟩) (by assumption) ?rp15
      case yp15 => (intro w' hSw; (try dsimp only at hSw); go_simp; try with_reducible rfl)
      try simp only [Act.put, List.setIfInBounds_toArray, List.set_cons_zero, List.set_cons_succ]
      refine wpAnyH_take (i := 16) (oi := { dst := some 86, op := Op.move (Operand.tmp 11), type := 3, pos := "ref.go:48", after := #[], guard := none }) (v := ?vp16) rfl (by kernel_rfl) (by kernel_rfl) (by kernel_rfl) (fun _ _ _ h => HP.out _ _ _ _ _ h) (Or.inl ⟨by rfl, ?yp16⟩) (by assumption) ?rp16
      case yp16 => (intro w' hSw; (try dsimp only at hSw); go_simp; try with_reducible rfl)
      try simp only [Act.put, List.setIfInBounds_toArray, List.set_cons_zero, List.set_cons_succ]
      refine wpAnyH_take (i := 17) (oi := { dst := some 87, op := Op.binOp BinOp.add 3 (Operand.tmp 86) (Operand.const (Value.int IntKind.i64 2)) 3, type := 3, pos := "ref.go:48", after := #[{ on := 16, ground := Ground.data }], guard := none }) (v := ?vp17) rfl (by kernel_rfl) (by kernel_rfl) (by kernel_rfl) (fun _ _ _ h => HP.out _ _ _ _ _ h) (Or.inl ⟨by rfl, ?yp17⟩) (by assumption) ?rp17
      case yp17 => (intro w' hSw; (try dsimp only at hSw); go_simp; try with_reducible rfl)
      try simp only [Act.put, List.setIfInBounds_toArray, List.set_cons_zero, List.set_cons_succ]
      refine wpAnyH_take (i := 18) (oi := { dst := some 88, op := Op.indexAddr 22 (Operand.tmp 85) (Operand.tmp 87), type := 0, pos := "ref.go:48", after := #[{ on := 15, ground := Ground.data }, { on := 17, ground := Ground.data }], guard := none }) (v := ?vp18) rfl (by kernel_rfl) (by kernel_rfl) (by kernel_rfl) (fun _ _ _ h => HP.out _ _ _ _ _ h) (Or.inl ⟨by rfl, ?yp18⟩) (by assumption) ?rp18
      case yp18 => (intro w' hSw; (try dsimp only at hSw); go_simp; try with_reducible rfl)
      try simp only [Act.put, List.setIfInBounds_toArray, List.set_cons_zero, List.set_cons_succ]
      refine wpAnyH_take (i := 19) (oi := { dst := some 89, op := Op.load 5 (Operand.tmp 88), type := 5, pos := "ref.go:48", after := #[{ on := 18, ground := Ground.data }], guard := none }) (v := ?vp19) rfl (by kernel_rfl) (by kernel_rfl) (by kernel_rfl) (fun _ _ _ h => HP.out _ _ _ _ _ h) (Or.inl ⟨by rfl, ?yp19⟩) (by assumption) ?rp19
      case yp19 => (intro w' hSw; (try dsimp only at hSw); go_simp; try with_reducible rfl)
      try simp only [Act.put, List.setIfInBounds_toArray, List.set_cons_zero, List.set_cons_succ]
      refine wpAnyH_take (i := 20) (oi := { dst := some 90, op := Op.convert 5 59 (Operand.tmp 89), type := 59, pos := "ref.go:48", after := #[{ on := 19, ground := Ground.data }], guard := none }) (v := ?vp20) rfl (by kernel_rfl) (by kernel_rfl) (by kernel_rfl) (fun _ _ _ h => HP.out _ _ _ _ _ h) (Or.inl ⟨by rfl, ?yp20⟩) (by assumption) ?rp20
      case yp20 => (intro w' hSw; (try dsimp only at hSw); go_simp; try with_reducible rfl)
      try simp only [Act.put, List.setIfInBounds_toArray, List.set_cons_zero, List.set_cons_succ]
      refine wpAnyH_take (i := 21) (oi := { dst := some 91, op := Op.binOp BinOp.shl 59 (Operand.tmp 90) (Operand.const (Value.int IntKind.u64 8)) 68, type := 59, pos := "ref.go:48", after := #[{ on := 20, ground := Ground.data }], guard := none }) (v := ?vp21) rfl (by kernel_rfl) (by kernel_rfl) (by kernel_rfl) (fun _ _ _ h => HP.out _ _ _ _ _ h) (Or.inl ⟨by rfl, ?yp21⟩) (by assumption) ?rp21
      case yp21 => (intro w' hSw; (try dsimp only at hSw); go_simp; try with_reducible rfl)
      try simp only [Act.put, List.setIfInBounds_toArray, List.set_cons_zero, List.set_cons_succ]
      refine wpAnyH_take (i := 22) (oi := { dst := some 92, op := Op.binOp BinOp.or 59 (Operand.tmp 84) (Operand.tmp 91) 59, type := 59, pos := "ref.go:48", after := #[{ on := 14, ground := Ground.data }, { on := 21, ground := Ground.data }], guard := none }) (v := ?vp22) rfl (by kernel_rfl) (by kernel_rfl) (by kernel_rfl) (fun _ _ _ h => HP.out _ _ _ _ _ h) (Or.inl ⟨by rfl, ?yp22⟩) (by assumption) ?rp22
      case yp22 => (intro w' hSw; (try dsimp only at hSw); go_simp; try with_reducible rfl)
      try simp only [Act.put, List.setIfInBounds_toArray, List.set_cons_zero, List.set_cons_succ]
      refine wpAnyH_take (i := 23) (oi := { dst := some 93, op := Op.move (Operand.tmp 5), type := 22, pos := "ref.go:48", after := #[], guard := none }) (v := ?vp23) rfl (by kernel_rfl) (by kernel_rfl) (by kernel_rfl) (fun _ _ _ h => HP.out _ _ _ _ _ h) (Or.inl ⟨by rfl, ?yp23⟩) (by assumption) ?rp23
      case yp23 => (intro w' hSw; (try dsimp only at hSw); go_simp; try with_reducible rfl)
      try simp only [Act.put, List.setIfInBounds_toArray, List.set_cons_zero, List.set_cons_succ]
      refine wpAnyH_take (i := 24) (oi := { dst := some 94, op := Op.move (Operand.tmp 11), type := 3, pos := "ref.go:48", after := #[], guard := none }) (v := ?vp24) rfl (by kernel_rfl) (by kernel_rfl) (by kernel_rfl) (fun _ _ _ h => HP.out _ _ _ _ _ h) (Or.inl ⟨by rfl, ?yp24⟩) (by assumption) ?rp24
      case yp24 => (intro w' hSw; (try dsimp only at hSw); go_simp; try with_reducible rfl)
      try simp only [Act.put, List.setIfInBounds_toArray, List.set_cons_zero, List.set_cons_succ]
      refine wpAnyH_take (i := 25) (oi := { dst := some 95, op := Op.binOp BinOp.add 3 (Operand.tmp 94) (Operand.const (Value.int IntKind.i64 3)) 3, type := 3, pos := "ref.go:48", after := #[{ on := 24, ground := Ground.data }], guard := none }) (v := ?vp25) rfl (by kernel_rfl) (by kernel_rfl) (by kernel_rfl) (fun _ _ _ h => HP.out _ _ _ _ _ h) (Or.inl ⟨by rfl, ?yp25⟩) (by assumption) ?rp25
      case yp25 => (intro w' hSw; (try dsimp only at hSw); go_simp; try with_reducible rfl)
      try simp only [Act.put, List.setIfInBounds_toArray, List.set_cons_zero, List.set_cons_succ]
      refine wpAnyH_take (i := 26) (oi := { dst := some 96, op := Op.indexAddr 22 (Operand.tmp 93) (Operand.tmp 95), type := 0, pos := "ref.go:48", after := #[{ on := 23, ground := Ground.data }, { on := 25, ground := Ground.data }], guard := none }) (v := ?vp26) rfl (by kernel_rfl) (by kernel_rfl) (by kernel_rfl) (fun _ _ _ h => HP.out _ _ _ _ _ h) (Or.inl ⟨by rfl, ?yp26⟩) (by assumption) ?rp26
      case yp26 => (intro w' hSw; (try dsimp only at hSw); go_simp; try with_reducible rfl)
      try simp only [Act.put, List.setIfInBounds_toArray, List.set_cons_zero, List.set_cons_succ]
      refine wpAnyH_take (i := 27) (oi := { dst := some 97, op := Op.load 5 (Operand.tmp 96), type := 5, pos := "ref.go:48", after := #[{ on := 26, ground := Ground.data }], guard := none }) (v := ?vp27) rfl (by kernel_rfl) (by kernel_rfl) (by kernel_rfl) (fun _ _ _ h => HP.out _ _ _ _ _ h) (Or.inl ⟨by rfl, ?yp27⟩) (by assumption) ?rp27
      case yp27 => (intro w' hSw; (try dsimp only at hSw); go_simp; try with_reducible rfl)
      try simp only [Act.put, List.setIfInBounds_toArray, List.set_cons_zero, List.set_cons_succ]
      refine wpAnyH_take (i := 28) (oi := { dst := some 98, op := Op.convert 5 59 (Operand.tmp 97), type := 59, pos := "ref.go:48", after := #[{ on := 27, ground := Ground.data }], guard := none }) (v := ?vp28) rfl (by kernel_rfl) (by kernel_rfl) (by kernel_rfl) (fun _ _ _ h => HP.out _ _ _ _ _ h) (Or.inl ⟨by rfl, ?yp28⟩) (by assumption) ?rp28
      case yp28 => (intro w' hSw; (try dsimp only at hSw); go_simp; try with_reducible rfl)
      try simp only [Act.put, List.setIfInBounds_toArray, List.set_cons_zero, List.set_cons_succ]
      refine wpAnyH_take (i := 29) (oi := { dst := some 99, op := Op.binOp BinOp.or 59 (Operand.tmp 92) (Operand.tmp 98) 59, type := 59, pos := "ref.go:48", after := #[{ on := 22, ground := Ground.data }, { on := 28, ground := Ground.data }], guard := none }) (v := ?vp29) rfl (by kernel_rfl) (by kernel_rfl) (by kernel_rfl) (fun _ _ _ h => HP.out _ _ _ _ _ h) (Or.inl ⟨by rfl, ?yp29⟩) (by assumption) ?rp29
      case yp29 => (intro w' hSw; (try dsimp only at hSw); go_simp; try with_reducible rfl)
      try simp only [Act.put, List.setIfInBounds_toArray, List.set_cons_zero, List.set_cons_succ]
      refine wpAnyH_take (i := 30) (oi := { dst := some 100, op := Op.indexAddr 62 (Operand.tmp 9) (Operand.tmp 70), type := 0, pos := "ref.go:48", after := #[{ on := 0, ground := Ground.data }, { on := 0, ground := Ground.phase }, { on := 1, ground := Ground.phase }, { on := 2, ground := Ground.phase }, { on := 3, ground := Ground.phase }, { on := 4, ground := Ground.phase }, { on := 5, ground := Ground.phase }, { on := 6, ground := Ground.phase }, { on := 7, ground := Ground.phase }, { on := 8, ground := Ground.phase }, { on := 9, ground := Ground.phase }, { on := 10, ground := Ground.phase }, { on := 11, ground := Ground.phase }, { on := 12, ground := Ground.phase }, { on := 13, ground := Ground.phase }, { on := 14, ground := Ground.phase }, { on := 15, ground := Ground.phase }, { on := 16, ground := Ground.phase }, { on := 17, ground := Ground.phase }, { on := 18, ground := Ground.phase }, { on := 19, ground := Ground.phase }, { on := 20, ground := Ground.phase }, { on := 21, ground := Ground.phase }, { on := 22, ground := Ground.phase }, { on := 23, ground := Ground.phase }, { on := 24, ground := Ground.phase }, { on := 25, ground := Ground.phase }, { on := 26, ground := Ground.phase }, { on := 27, ground := Ground.phase }, { on := 28, ground := Ground.phase }, { on := 29, ground := Ground.phase }], guard := none }) (v := ?vp30) rfl (by kernel_rfl) (by kernel_rfl) (by kernel_rfl) (fun _ _ _ h => HP.out _ _ _ _ _ h) (Or.inl ⟨by rfl, ?yp30⟩) (by assumption) ?rp30
      case yp30 => (intro w' hSw; (try dsimp only at hSw); go_simp; try with_reducible rfl)
      try simp only [Act.put, List.setIfInBounds_toArray, List.set_cons_zero, List.set_cons_succ]
      refine wpAnyH_ready (rs := [31]) (by kernel_rfl) (by simp) ?_
      refine AllReadyH.cons (o := { dst := none, op := Op.store 59 (Operand.tmp 100) (Operand.tmp 99), type := 0, pos := "ref.go:48", after := #[{ on := 30, ground := Ground.data }, { on := 29, ground := Ground.data }, { on := 0, ground := Ground.phase }, { on := 1, ground := Ground.phase }, { on := 2, ground := Ground.phase }, { on := 3, ground := Ground.phase }, { on := 4, ground := Ground.phase }, { on := 5, ground := Ground.phase }, { on := 6, ground := Ground.phase }, { on := 7, ground := Ground.phase }, { on := 8, ground := Ground.phase }, { on := 9, ground := Ground.phase }, { on := 10, ground := Ground.phase }, { on := 11, ground := Ground.phase }, { on := 12, ground := Ground.phase }, { on := 13, ground := Ground.phase }, { on := 14, ground := Ground.phase }, { on := 15, ground := Ground.phase }, { on := 16, ground := Ground.phase }, { on := 17, ground := Ground.phase }, { on := 18, ground := Ground.phase }, { on := 19, ground := Ground.phase }, { on := 20, ground := Ground.phase }, { on := 21, ground := Ground.phase }, { on := 22, ground := Ground.phase }, { on := 23, ground := Ground.phase }, { on := 24, ground := Ground.phase }, { on := 25, ground := Ground.phase }, { on := 26, ground := Ground.phase }, { on := 27, ground := Ground.phase }, { on := 28, ground := Ground.phase }, { on := 29, ground := Ground.phase }], guard := none }) rfl (fun K hK => ?_) AllReadyH.nil
      go_simp
      refine hK.out _ _ (⟨(World.cell?_setCell_far _ ⟨X, i, none⟩ _ _ hXg).trans x0, (World.cell?_setCell_far _ ⟨X, i, none⟩ _ _ hXg).trans x1, (World.cell?_setCell_far _ ⟨X, i, none⟩ _ _ hXg).trans x2, (World.cell?_setCell_far _ ⟨X, i, none⟩ _ _ hXg).trans x3⟩) (fun hHeldp31 => ?_)
      clear hK K hHeld
      try simp only [Act.put, List.setIfInBounds_toArray, List.set_cons_zero, List.set_cons_succ]
      refine wpAnyH_done (by kernel_rfl) ?_ _
      have HB2 : Hid (Blk ((wr.setCell ⟨X, i, none⟩ (.int .u32 (word b0 b1 b2 b3 : Nat))).drew) X 62 (arr 64 (wordsOf m (i + 1)))) := Lib.hid (by
        have h := hb.out.set_ i (.int .u32 (word b0 b1 b2 b3 : Nat))
        have hl := wordsOf_len m i
        have h2 := arr_set (n := 64) (l := wordsOf m i) (x := word b0 b1 b2 b3) (by have := HLT.out; omega)
        rw [hl] at h2
        rw [HW.out, ← h2]; exact h)
      have HB3 := Lib.hid ((hB.out.setCell (p := ⟨X, i, none⟩) (Nat.le_refl _) (.int .u32 (word b0 b1 b2 b3 : Nat))).drew)
      generalize (wr.setCell ⟨X, i, none⟩ (.int .u32 (word b0 b1 b2 b3 : Nat))).drew = WF at *
      clear x0 x1 x2 x3 hc hf hw e0 e1 e2 e3 e4 q0 q1 q2 q3 r0 r1 r2 r3 s0' s1' s2' m0 m1 m2 m3
      go_wp2_with fail
      go_roundw
      case rel => exact ⟨i + 1, by go_num, HLT.out, HB2, HB3⟩
      case measure => have := HLT.out; simp [intOf]; omega
    · obtain rfl : i = 16 := by omega
      have hlw : (wordsOf m 16).length = 16 := wordsOf_len m 16
      have HLW := Lib.hid hlw
      have HWW16 := Lib.hid (wordsOf_words m 16)
      clear hlw hlt hi
      obtain ⟨ws, hws⟩ : ∃ ws, ws = wordsOf m 16 := ⟨_, rfl⟩
      rw [← hws] at hb HLW HWW16
      have HWS := Lib.hid hws
      clear hws
      rw [show ((16 : Nat) : Int) = 16 from rfl]
      go_wp2_with fail
      go_loopw [12] (fun s12 wr => ∃ i n : Nat, s12 = .int .i64 i ∧ i = 16 + n ∧ n ≤ 48 ∧ Hid (Blk wr X 62 (arr 64 (sched ws n))) ∧ Hid (Below X w wr)) (fun s12 _ => 64 - (intOf s12).toNat)
      case atStart => exact ⟨16, 0, rfl, rfl, by omega, hb, hB⟩
      case round =>
        clear hb hB
        obtain ⟨i, n_, rfl, hin, hn, hb, hB⟩ := hrel
        have i0 : (0 : Int) ≤ (i : Int) := Int.natCast_nonneg _
        by_cases hlt : i < 64
        · have i1 : (i : Int) < 64 := by omega
          have hl : (sched ws n_).length = i := by rw [sched_len, HLW.out]; omega
          have hW := sched_words HWW16.out n_
          have HSC : Hid (sched ws (n_ + 1) = sched ws n_ ++ [nextW (sched ws n_)]) := Lib.hid rfl
          obtain ⟨l, hll⟩ : ∃ l, l = sched ws n_ := ⟨_, rfl⟩
          rw [← hll] at hb hl hW HSC
          have HLL := Lib.hid hll
          clear hll
          obtain ⟨a0', ha0⟩ : ∃ a, a = i - 16 := ⟨_, rfl⟩
          obtain ⟨a1, ha1⟩ : ∃ a, a = i - 15 := ⟨_, rfl⟩
          obtain ⟨a2, ha2⟩ : ∃ a, a = i - 7 := ⟨_, rfl⟩
          obtain ⟨a3, ha3⟩ : ∃ a, a = i - 2 := ⟨_, rfl⟩
          have XC : Hid (∀ W : World, Blk W X 62 (arr 64 l) → W.cell? ⟨X, a0', none⟩ = some (.int .u32 (at0 l a0')) ∧ W.cell? ⟨X, a1, none⟩ = some (.int .u32 (at0 l a1)) ∧ W.cell? ⟨X, a2, none⟩ = some (.int .u32 (at0 l a2)) ∧ W.cell? ⟨X, a3, none⟩ = some (.int .u32 (at0 l a3)) ∧ W.cell? ⟨X, i, none⟩ = some (.int .u32 0)) := Lib.hid (fun W h => ⟨by rw [h.cell, arr_at (by omega)], by rw [h.cell, arr_at (by omega)], by rw [h.cell, arr_at (by omega)], by rw [h.cell, arr_at (by omega)], by rw [h.cell, arr_zero (by omega) hlt]⟩)
          have v0l := hW.at a0'
          have v1l := hW.at a1
          have v2l := hW.at a2
          have v3l := hW.at a3
          have hnx : nextW l = (((at0 l a0' + turn2 7 18 3 (at0 l a1)) % M32 + at0 l a2) % M32 + turn2 17 19 10 (at0 l a3)) % M32 := by unfold nextW; rw [hl, ha0, ha1, ha2, ha3]
          have D1 := Lib.hid fun W => docTurn_any W (at0 l a1) 7 v1l (by omega) (by omega)
          have D2 := Lib.hid fun W => docTurn_any W (at0 l a1) 18 v1l (by omega) (by omega)
          have D3 := Lib.hid fun W => docTurn_any W (at0 l a3) 17 v3l (by omega) (by omega)
          have D4 := Lib.hid fun W => docTurn_any W (at0 l a3) 19 v3l (by omega) (by omega)
          have g1l := rotr_lt (a := 7) v1l
          have g2l := rotr_lt (a := 18) v1l
          have g3l : at0 l a1 / 2 ^ 3 < 4294967296 := Nat.lt_of_le_of_lt (Nat.div_le_self _ _) v1l
          have o1 : bits .xor .u32 (rotr 7 (at0 l a1) : Int) (rotr 18 (at0 l a1) : Int) = ((rotr 7 (at0 l a1) ^^^ rotr 18 (at0 l a1) : Nat) : Int) := u32_xor_nat _ _ g1l g2l
          have o2 : bits .xor .u32 ((rotr 7 (at0 l a1) ^^^ rotr 18 (at0 l a1) : Nat) : Int) ((at0 l a1 / 2 ^ 3 : Nat) : Int) = (turn2 7 18 3 (at0 l a1) : Int) := u32_xor_nat _ _ (xor_lt32 g1l g2l) g3l
          have y8 : ((at0 l a1 : Nat) : Int) / 8 = ((at0 l a1 / 2 ^ 3 : Nat) : Int) := by omega
          have k1l := rotr_lt (a := 17) v3l
          have k2l := rotr_lt (a := 19) v3l
          have k3l : at0 l a3 / 2 ^ 10 < 4294967296 := Nat.lt_of_le_of_lt (Nat.div_le_self _ _) v3l
          have o3 : bits .xor .u32 (rotr 17 (at0 l a3) : Int) (rotr 19 (at0 l a3) : Int) = ((rotr 17 (at0 l a3) ^^^ rotr 19 (at0 l a3) : Nat) : Int) := u32_xor_nat _ _ k1l k2l
          have o4 : bits .xor .u32 ((rotr 17 (at0 l a3) ^^^ rotr 19 (at0 l a3) : Nat) : Int) ((at0 l a3 / 2 ^ 10 : Nat) : Int) = (turn2 17 19 10 (at0 l a3) : Int) := u32_xor_nat _ _ (xor_lt32 k1l k2l) k3l
          have y9 : ((at0 l a3 : Nat) : Int) / 1024 = ((at0 l a3 / 2 ^ 10 : Nat) : Int) := by omega
          generalize turn2 7 18 3 (at0 l a1) = t1 at *
          generalize turn2 17 19 10 (at0 l a3) = t2 at *
          generalize rotr 7 (at0 l a1) ^^^ rotr 18 (at0 l a1) = g4 at *
          generalize rotr 17 (at0 l a3) ^^^ rotr 19 (at0 l a3) = k4 at *
          generalize rotr 7 (at0 l a1) = g1 at *
          generalize rotr 18 (at0 l a1) = g2 at *
          generalize at0 l a1 / 2 ^ 3 = g3 at *
          generalize rotr 17 (at0 l a3) = k1 at *
          generalize rotr 19 (at0 l a3) = k2 at *
          generalize at0 l a3 / 2 ^ 10 = k3 at *
          generalize at0 l a0' = v0 at *
          generalize at0 l a1 = v1 at *
          generalize at0 l a2 = v2 at *
          generalize at0 l a3 = v3 at *
          obtain ⟨z1, hz1⟩ : ∃ z, z = (v0 + t1) % M32 := ⟨_, rfl⟩
          obtain ⟨z2, hz2⟩ : ∃ z, z = (z1 + v2) % M32 := ⟨_, rfl⟩
          obtain ⟨z3, hz3⟩ : ∃ z, z = (z2 + t2) % M32 := ⟨_, rfl⟩
          rw [← hz1, ← hz2, ← hz3] at hnx
          have HNX := Lib.hid hnx
          have y1 : IntKind.u32.wrap ((v0 : Int) + (t1 : Int)) = (z1 : Int) := by rw [u32_add, hz1]
          have y2 : IntKind.u32.wrap ((z1 : Int) + (v2 : Int)) = (z2 : Int) := by rw [u32_add, hz2]
          have y3 : IntKind.u32.wrap ((z2 : Int) + (t2 : Int)) = (z3 : Int) := by rw [u32_add, hz3]
          have e0 : IntKind.i64.wrap ((i : Int) - 16) = (a0' : Int) := by rw [IntKind.wrap_i64]; omega
          have e1 : IntKind.i64.wrap ((i : Int) - 15) = (a1 : Int) := by rw [IntKind.wrap_i64]; omega
          have e2 : IntKind.i64.wrap ((i : Int) - 7) = (a2 : Int) := by rw [IntKind.wrap_i64]; omega
          have e3 : IntKind.i64.wrap ((i : Int) - 2) = (a3 : Int) := by rw [IntKind.wrap_i64]; omega
          have q0 : (a0' : Int) < 64 := by omega
          have q1 : (a1 : Int) < 64 := by omega
          have q2 : (a2 : Int) < 64 := by omega
          have q3 : (a3 : Int) < 64 := by omega
          have h0 : (⟨X, i, none⟩ : Addr) ≠ ⟨X, a0', none⟩ := fun e => by injection e; omega
          have h2 : (⟨X, i, none⟩ : Addr) ≠ ⟨X, a2, none⟩ := fun e => by injection e; omega
          have HI := Lib.hid (And.intro hin hl)
          have HLT := Lib.hid hlt
          clear ha0 ha1 ha2 ha3 hnx hz1 hz2 hz3 v0l v1l v2l v3l g1l g2l g3l k1l k2l k3l hW hin hl hn hlt
          go_upto_region 23 with fail
          have x1 : wr.drew.cell? ⟨X, a1, none⟩ = some (.int .u32 (v1 : Int)) := (XC.out _ hb.out).2.1
          refine wp_region_held_drew (S := fun w' => w'.cell? ⟨X, a1, none⟩ = some (.int .u32 (v1 : Int))) (by kernel_rfl) (x1) (fun hHeld => ?_)
          refine wpAnyH_take (i := 0) (oi := { dst := some 105, op := Op.move (Operand.tmp 12), type := 3, pos := "ref.go:51", after := #[], guard := none }) (v := ?vq0) rfl (by kernel_rfl) (by kernel_rfl) (by kernel_rfl) (fun _ _ _ h => HP.out _ _ _ _ _ h) (Or.inl ⟨by rfl, ?yq0⟩) (by assumption) ?rq0
          case yq0 => (intro w' hSw; (try dsimp only at hSw); go_simp; try with_reducible rfl)
          try simp only [Act.put, List.setIfInBounds_toArray, List.set_cons_zero, List.set_cons_succ]
          refine wpAnyH_take (i := 1) (oi := { dst := some 106, op := Op.binOp BinOp.sub 3 (Operand.tmp 105) (Operand.const (Value.int IntKind.i64 15)) 3, type := 3, pos := "ref.go:51", after := #[{ on := 0, ground := Ground.data }], guard := none }) (v := ?vq1) rfl (by kernel_rfl) (by kernel_rfl) (by kernel_rfl) (fun _ _ _ h => HP.out _ _ _ _ _ h) (Or.inl ⟨by rfl, ?yq1⟩) (by assumption) ?rq1
          case yq1 => (intro w' hSw; (try dsimp only at hSw); go_simp; try with_reducible rfl)
          try simp only [Act.put, List.setIfInBounds_toArray, List.set_cons_zero, List.set_cons_succ]
          refine wpAnyH_take (i := 2) (oi := { dst := some 107, op := Op.indexAddr 62 (Operand.tmp 9) (Operand.tmp 106), type := 0, pos := "ref.go:51", after := #[{ on := 1, ground := Ground.data }], guard := none }) (v := ?vq2) rfl (by kernel_rfl) (by kernel_rfl) (by kernel_rfl) (fun _ _ _ h => HP.out _ _ _ _ _ h) (Or.inl ⟨by rfl, ?yq2⟩) (by assumption) ?rq2
          case yq2 => (intro w' hSw; (try dsimp only at hSw); go_simp; try with_reducible rfl)
          try simp only [Act.put, List.setIfInBounds_toArray, List.set_cons_zero, List.set_cons_succ]
          refine wpAnyH_take (i := 3) (oi := { dst := some 108, op := Op.load 59 (Operand.tmp 107), type := 59, pos := "ref.go:51", after := #[{ on := 2, ground := Ground.data }], guard := none }) (v := ?vq3) rfl (by kernel_rfl) (by kernel_rfl) (by kernel_rfl) (fun _ _ _ h => HP.out _ _ _ _ _ h) (Or.inl ⟨by rfl, ?yq3⟩) (by assumption) ?rq3
          case yq3 => (intro w' hSw; (try dsimp only at hSw); go_simp; try with_reducible rfl)
          try simp only [Act.put, List.setIfInBounds_toArray, List.set_cons_zero, List.set_cons_succ]
          refine wpAnyH_take (i := 5) (oi := { dst := some 110, op := Op.move (Operand.tmp 12), type := 3, pos := "ref.go:51", after := #[], guard := none }) (v := ?vq5) rfl (by kernel_rfl) (by kernel_rfl) (by kernel_rfl) (fun _ _ _ h => HP.out _ _ _ _ _ h) (Or.inl ⟨by rfl, ?yq5⟩) (by assumption) ?rq5
          case yq5 => (intro w' hSw; (try dsimp only at hSw); go_simp; try with_reducible rfl)
          try simp only [Act.put, List.setIfInBounds_toArray, List.set_cons_zero, List.set_cons_succ]
          refine wpAnyH_take (i := 6) (oi := { dst := some 111, op := Op.binOp BinOp.sub 3 (Operand.tmp 110) (Operand.const (Value.int IntKind.i64 15)) 3, type := 3, pos := "ref.go:51", after := #[{ on := 5, ground := Ground.data }], guard := none }) (v := ?vq6) rfl (by kernel_rfl) (by kernel_rfl) (by kernel_rfl) (fun _ _ _ h => HP.out _ _ _ _ _ h) (Or.inl ⟨by rfl, ?yq6⟩) (by assumption) ?rq6
          case yq6 => (intro w' hSw; (try dsimp only at hSw); go_simp; try with_reducible rfl)
          try simp only [Act.put, List.setIfInBounds_toArray, List.set_cons_zero, List.set_cons_succ]
          refine wpAnyH_take (i := 7) (oi := { dst := some 112, op := Op.indexAddr 62 (Operand.tmp 9) (Operand.tmp 111), type := 0, pos := "ref.go:51", after := #[{ on := 6, ground := Ground.data }], guard := none }) (v := ?vq7) rfl (by kernel_rfl) (by kernel_rfl) (by kernel_rfl) (fun _ _ _ h => HP.out _ _ _ _ _ h) (Or.inl ⟨by rfl, ?yq7⟩) (by assumption) ?rq7
          case yq7 => (intro w' hSw; (try dsimp only at hSw); go_simp; try with_reducible rfl)
          try simp only [Act.put, List.setIfInBounds_toArray, List.set_cons_zero, List.set_cons_succ]
          refine wpAnyH_take (i := 8) (oi := { dst := some 113, op := Op.load 59 (Operand.tmp 112), type := 59, pos := "ref.go:51", after := #[{ on := 7, ground := Ground.data }], guard := none }) (v := ?vq8) rfl (by kernel_rfl) (by kernel_rfl) (by kernel_rfl) (fun _ _ _ h => HP.out _ _ _ _ _ h) (Or.inl ⟨by rfl, ?yq8⟩) (by assumption) ?rq8
          case yq8 => (intro w' hSw; (try dsimp only at hSw); go_simp; try with_reducible rfl)
          try simp only [Act.put, List.setIfInBounds_toArray, List.set_cons_zero, List.set_cons_succ]
          refine wpAnyH_take (i := 11) (oi := { dst := some 116, op := Op.move (Operand.tmp 12), type := 3, pos := "ref.go:51", after := #[], guard := none }) (v := ?vq11) rfl (by kernel_rfl) (by kernel_rfl) (by kernel_rfl) (fun _ _ _ h => HP.out _ _ _ _ _ h) (Or.inl ⟨by rfl, ?yq11⟩) (by assumption) ?rq11
          case yq11 => (intro w' hSw; (try dsimp only at hSw); go_simp; try with_reducible rfl)
          try simp only [Act.put, List.setIfInBounds_toArray, List.set_cons_zero, List.set_cons_succ]
          refine wpAnyH_take (i := 12) (oi := { dst := some 117, op := Op.binOp BinOp.sub 3 (Operand.tmp 116) (Operand.const (Value.int IntKind.i64 15)) 3, type := 3, pos := "ref.go:51", after := #[{ on := 11, ground := Ground.data }], guard := none }) (v := ?vq12) rfl (by kernel_rfl) (by kernel_rfl) (by kernel_rfl) (fun _ _ _ h => HP.out _ _ _ _ _ h) (Or.inl ⟨by rfl, ?yq12⟩) (by assumption) ?rq12
          case yq12 => (intro w' hSw; (try dsimp only at hSw); go_simp; try with_reducible rfl)
          try simp only [Act.put, List.setIfInBounds_toArray, List.set_cons_zero, List.set_cons_succ]
          refine wpAnyH_take (i := 13) (oi := { dst := some 118, op := Op.indexAddr 62 (Operand.tmp 9) (Operand.tmp 117), type := 0, pos := "ref.go:51", after := #[{ on := 12, ground := Ground.data }], guard := none }) (v := ?vq13) rfl (by kernel_rfl) (by kernel_rfl) (by kernel_rfl) (fun _ _ _ h => HP.out _ _ _ _ _ h) (Or.inl ⟨by rfl, ?yq13⟩) (by assumption) ?rq13
          case yq13 => (intro w' hSw; (try dsimp only at hSw); go_simp; try with_reducible rfl)
          try simp only [Act.put, List.setIfInBounds_toArray, List.set_cons_zero, List.set_cons_succ]
          refine wpAnyH_take (i := 14) (oi := { dst := some 119, op := Op.load 59 (Operand.tmp 118), type := 59, pos := "ref.go:51", after := #[{ on := 13, ground := Ground.data }], guard := none }) (v := ?vq14) rfl (by kernel_rfl) (by kernel_rfl) (by kernel_rfl) (fun _ _ _ h => HP.out _ _ _ _ _ h) (Or.inl ⟨by rfl, ?yq14⟩) (by assumption) ?rq14
          case yq14 => (intro w' hSw; (try dsimp only at hSw); go_simp; try with_reducible rfl)
          try simp only [Act.put, List.setIfInBounds_toArray, List.set_cons_zero, List.set_cons_succ]
          refine wpAnyH_take (i := 15) (oi := { dst := some 120, op := Op.binOp BinOp.shr 59 (Operand.tmp 119) (Operand.const (Value.int IntKind.u64 3)) 68, type := 59, pos := "ref.go:51", after := #[{ on := 14, ground := Ground.data }], guard := none }) (v := ?vq15) rfl (by kernel_rfl) (by kernel_rfl) (by kernel_rfl) (fun _ _ _ h => HP.out _ _ _ _ _ h) (Or.inl ⟨by rfl, ?yq15⟩) (by assumption) ?rq15
          case yq15 => (intro w' hSw; (try dsimp only at hSw); go_simp; try with_reducible rfl)
          try simp only [Act.put, List.setIfInBounds_toArray, List.set_cons_zero, List.set_cons_succ]
          refine wpAnyH_ready (rs := [4]) (by kernel_rfl) (by simp) ?_
          refine AllReadyH.cons (o := { dst := some 109, op := Op.call { callee := Callee.value (Operand.func 36), args := #[Operand.tmp 108, Operand.const (Value.int IntKind.i64 7)], argTypes := #[59, 3] }, type := 59, pos := "ref.go:51", after := #[{ on := 3, ground := Ground.data }], guard := none }) rfl (fun K hK => ?_) AllReadyH.nil
          go_simp
          go_at_call 36
          refine (D1.out _).mono ?_
          rintro e w5 ⟨rfl, k5, hw5⟩
          have hb5 : Hid (Blk w5 X 62 (arr 64 l)) := Lib.hid (by rw [hw5]; exact hb.out)
          have hB5 : Hid (Below X w w5) := Lib.hid (by rw [hw5]; exact below_drewN (below_drewN hB.out 1) k5)
          have y5 : w5.cell? ⟨X, a1, none⟩ = some (.int .u32 (v1 : Int)) := by rw [hw5]; exact (XC.out _ hb.out).2.1
          clear hw5
          dsimp only
          go_wp2_with fail
          refine hK.out _ _ (y5) (fun hHeldq4 => ?_)
          clear hK K hHeld
          try simp only [Act.put, List.setIfInBounds_toArray, List.set_cons_zero, List.set_cons_succ]
          refine wpAnyH_ready (rs := [9]) (by kernel_rfl) (by simp) ?_
          refine AllReadyH.cons (o := { dst := some 114, op := Op.call { callee := Callee.value (Operand.func 36), args := #[Operand.tmp 113, Operand.const (Value.int IntKind.i64 18)], argTypes := #[59, 3] }, type := 59, pos := "ref.go:51", after := #[{ on := 8, ground := Ground.data }, { on := 4, ground := Ground.chain }], guard := none }) rfl (fun K hK => ?_) AllReadyH.nil
          go_simp
          go_at_call 36
          refine (D2.out _).mono ?_
          rintro e w6 ⟨rfl, k6, hw6⟩
          have hb6 : Hid (Blk w6 X 62 (arr 64 l)) := Lib.hid (by rw [hw6]; exact hb5.out)
          have hB6 : Hid (Below X w w6) := Lib.hid (by rw [hw6]; exact below_drewN hB5.out k6)
          have y6 : w6.cell? ⟨X, a1, none⟩ = some (.int .u32 (v1 : Int)) := by rw [hw6]; exact (XC.out _ hb5.out).2.1
          clear hw6
          dsimp only
          go_wp2_with fail
          refine hK.out _ _ (y6) (fun hHeldq9 => ?_)
          clear hK K hHeldq4
          try simp only [Act.put, List.setIfInBounds_toArray, List.set_cons_zero, List.set_cons_succ]
          refine wpAnyH_take (i := 10) (oi := { dst := some 115, op := Op.binOp BinOp.xor 59 (Operand.tmp 109) (Operand.tmp 114) 59, type := 59, pos := "ref.go:51", after := #[{ on := 4, ground := Ground.data }, { on := 9, ground := Ground.data }], guard := none }) (v := ?vq10) rfl (by kernel_rfl) (by kernel_rfl) (by kernel_rfl) (fun _ _ _ h => HP.out _ _ _ _ _ h) (Or.inl ⟨by rfl, ?yq10⟩) (by assumption) ?rq10
          case yq10 => (intro w' hSw; (try dsimp only at hSw); go_simp; try with_reducible rfl)
          try simp only [Act.put, List.setIfInBounds_toArray, List.set_cons_zero, List.set_cons_succ]
          refine wpAnyH_take (i := 16) (oi := { dst := some 121, op := Op.binOp BinOp.xor 59 (Operand.tmp 115) (Operand.tmp 120) 59, type := 59, pos := "ref.go:51", after := #[{ on := 10, ground := Ground.data }, { on := 15, ground := Ground.data }], guard := none }) (v := ?vq16) rfl (by kernel_rfl) (by kernel_rfl) (by kernel_rfl) (fun _ _ _ h => HP.out _ _ _ _ _ h) (Or.inl ⟨by rfl, ?yq16⟩) (by assumption) ?rq16
          case yq16 => (intro w' hSw; (try dsimp only at hSw); go_simp; try with_reducible rfl)
          try simp only [Act.put, List.setIfInBounds_toArray, List.set_cons_zero, List.set_cons_succ]
          refine wpAnyH_take (i := 17) (oi := { dst := some 13, op := Op.assign (Operand.tmp 121), type := 59, pos := "ref.go:51", after := #[{ on := 16, ground := Ground.data }, { on := 9, ground := Ground.chain }, { on := 0, ground := Ground.phase }, { on := 1, ground := Ground.phase }, { on := 2, ground := Ground.phase }, { on := 3, ground := Ground.phase }, { on := 4, ground := Ground.phase }, { on := 5, ground := Ground.phase }, { on := 6, ground := Ground.phase }, { on := 7, ground := Ground.phase }, { on := 8, ground := Ground.phase }, { on := 9, ground := Ground.phase }, { on := 10, ground := Ground.phase }, { on := 11, ground := Ground.phase }, { on := 12, ground := Ground.phase }, { on := 13, ground := Ground.phase }, { on := 14, ground := Ground.phase }, { on := 15, ground := Ground.phase }, { on := 16, ground := Ground.phase }], guard := none }) (v := ?vq17) rfl (by kernel_rfl) (by kernel_rfl) (by kernel_rfl) (fun _ _ _ h => HP.out _ _ _ _ _ h) (Or.inl ⟨by rfl, ?yq17⟩) (by assumption) ?rq17
          case yq17 => (intro w' hSw; (try dsimp only at hSw); go_simp; try with_reducible rfl)
          try simp only [Act.put, List.setIfInBounds_toArray, List.set_cons_zero, List.set_cons_succ]
          refine wpAnyH_done (by kernel_rfl) ?_ _
          clear x1 y5 y6
          go_upto_region 24 with fail
          have x3 : w6.drew.cell? ⟨X, a3, none⟩ = some (.int .u32 (v3 : Int)) := (XC.out _ hb6.out).2.2.2.1
          refine wp_region_held_drew (S := fun w' => w'.cell? ⟨X, a3, none⟩ = some (.int .u32 (v3 : Int))) (by kernel_rfl) (x3) (fun hHeld => ?_)
          refine wpAnyH_take (i := 0) (oi := { dst := some 122, op := Op.move (Operand.tmp 12), type := 3, pos := "ref.go:52", after := #[], guard := none }) (v := ?vr0) rfl (by kernel_rfl) (by kernel_rfl) (by kernel_rfl) (fun _ _ _ h => HP.out _ _ _ _ _ h) (Or.inl ⟨by rfl, ?yr0⟩) (by assumption) ?rr0
          case yr0 => (intro w' hSw; (try dsimp only at hSw); go_simp; try with_reducible rfl)
          try simp only [Act.put, List.setIfInBounds_toArray, List.set_cons_zero, List.set_cons_succ]
          refine wpAnyH_take (i := 1) (oi := { dst := some 123, op := Op.binOp BinOp.sub 3 (Operand.tmp 122) (Operand.const (Value.int IntKind.i64 2)) 3, type := 3, pos := "ref.go:52", after := #[{ on := 0, ground := Ground.data }], guard := none }) (v := ?vr1) rfl (by kernel_rfl) (by kernel_rfl) (by kernel_rfl) (fun _ _ _ h => HP.out _ _ _ _ _ h) (Or.inl ⟨by rfl, ?yr1⟩) (by assumption) ?rr1
          case yr1 => (intro w' hSw; (try dsimp only at hSw); go_simp; try with_reducible rfl)
          try simp only [Act.put, List.setIfInBounds_toArray, List.set_cons_zero, List.set_cons_succ]
          refine wpAnyH_take (i := 2) (oi := { dst := some 124, op := Op.indexAddr 62 (Operand.tmp 9) (Operand.tmp 123), type := 0, pos := "ref.go:52", after := #[{ on := 1, ground := Ground.data }], guard := none }) (v := ?vr2) rfl (by kernel_rfl) (by kernel_rfl) (by kernel_rfl) (fun _ _ _ h => HP.out _ _ _ _ _ h) (Or.inl ⟨by rfl, ?yr2⟩) (by assumption) ?rr2
          case yr2 => (intro w' hSw; (try dsimp only at hSw); go_simp; try with_reducible rfl)
          try simp only [Act.put, List.setIfInBounds_toArray, List.set_cons_zero, List.set_cons_succ]
          refine wpAnyH_take (i := 3) (oi := { dst := some 125, op := Op.load 59 (Operand.tmp 124), type := 59, pos := "ref.go:52", after := #[{ on := 2, ground := Ground.data }], guard := none }) (v := ?vr3) rfl (by kernel_rfl) (by kernel_rfl) (by kernel_rfl) (fun _ _ _ h => HP.out _ _ _ _ _ h) (Or.inl ⟨by rfl, ?yr3⟩) (by assumption) ?rr3
          case yr3 => (intro w' hSw; (try dsimp only at hSw); go_simp; try with_reducible rfl)
          try simp only [Act.put, List.setIfInBounds_toArray, List.set_cons_zero, List.set_cons_succ]
          refine wpAnyH_take (i := 5) (oi := { dst := some 127, op := Op.move (Operand.tmp 12), type := 3, pos := "ref.go:52", after := #[], guard := none }) (v := ?vr5) rfl (by kernel_rfl) (by kernel_rfl) (by kernel_rfl) (fun _ _ _ h => HP.out _ _ _ _ _ h) (Or.inl ⟨by rfl, ?yr5⟩) (by assumption) ?rr5
          case yr5 => (intro w' hSw; (try dsimp only at hSw); go_simp; try with_reducible rfl)
          try simp only [Act.put, List.setIfInBounds_toArray, List.set_cons_zero, List.set_cons_succ]
          refine wpAnyH_take (i := 6) (oi := { dst := some 128, op := Op.binOp BinOp.sub 3 (Operand.tmp 127) (Operand.const (Value.int IntKind.i64 2)) 3, type := 3, pos := "ref.go:52", after := #[{ on := 5, ground := Ground.data }], guard := none }) (v := ?vr6) rfl (by kernel_rfl) (by kernel_rfl) (by kernel_rfl) (fun _ _ _ h => HP.out _ _ _ _ _ h) (Or.inl ⟨by rfl, ?yr6⟩) (by assumption) ?rr6
          case yr6 => (intro w' hSw; (try dsimp only at hSw); go_simp; try with_reducible rfl)
          try simp only [Act.put, List.setIfInBounds_toArray, List.set_cons_zero, List.set_cons_succ]
          refine wpAnyH_take (i := 7) (oi := { dst := some 129, op := Op.indexAddr 62 (Operand.tmp 9) (Operand.tmp 128), type := 0, pos := "ref.go:52", after := #[{ on := 6, ground := Ground.data }], guard := none }) (v := ?vr7) rfl (by kernel_rfl) (by kernel_rfl) (by kernel_rfl) (fun _ _ _ h => HP.out _ _ _ _ _ h) (Or.inl ⟨by rfl, ?yr7⟩) (by assumption) ?rr7
          case yr7 => (intro w' hSw; (try dsimp only at hSw); go_simp; try with_reducible rfl)
          try simp only [Act.put, List.setIfInBounds_toArray, List.set_cons_zero, List.set_cons_succ]
          refine wpAnyH_take (i := 8) (oi := { dst := some 130, op := Op.load 59 (Operand.tmp 129), type := 59, pos := "ref.go:52", after := #[{ on := 7, ground := Ground.data }], guard := none }) (v := ?vr8) rfl (by kernel_rfl) (by kernel_rfl) (by kernel_rfl) (fun _ _ _ h => HP.out _ _ _ _ _ h) (Or.inl ⟨by rfl, ?yr8⟩) (by assumption) ?rr8
          case yr8 => (intro w' hSw; (try dsimp only at hSw); go_simp; try with_reducible rfl)
          try simp only [Act.put, List.setIfInBounds_toArray, List.set_cons_zero, List.set_cons_succ]
          refine wpAnyH_take (i := 11) (oi := { dst := some 133, op := Op.move (Operand.tmp 12), type := 3, pos := "ref.go:52", after := #[], guard := none }) (v := ?vr11) rfl (by kernel_rfl) (by kernel_rfl) (by kernel_rfl) (fun _ _ _ h => HP.out _ _ _ _ _ h) (Or.inl ⟨by rfl, ?yr11⟩) (by assumption) ?rr11
          case yr11 => (intro w' hSw; (try dsimp only at hSw); go_simp; try with_reducible rfl)
          try simp only [Act.put, List.setIfInBounds_toArray, List.set_cons_zero, List.set_cons_succ]
          refine wpAnyH_take (i := 12) (oi := { dst := some 134, op := Op.binOp BinOp.sub 3 (Operand.tmp 133) (Operand.const (Value.int IntKind.i64 2)) 3, type := 3, pos := "ref.go:52", after := #[{ on := 11, ground := Ground.data }], guard := none }) (v := ?vr12) rfl (by kernel_rfl) (by kernel_rfl) (by kernel_rfl) (fun _ _ _ h => HP.out _ _ _ _ _ h) (Or.inl ⟨by rfl, ?yr12⟩) (by assumption) ?rr12
          case yr12 => (intro w' hSw; (try dsimp only at hSw); go_simp; try with_reducible rfl)
          try simp only [Act.put, List.setIfInBounds_toArray, List.set_cons_zero, List.set_cons_succ]
          refine wpAnyH_take (i := 13) (oi := { dst := some 135, op := Op.indexAddr 62 (Operand.tmp 9) (Operand.tmp 134), type := 0, pos := "ref.go:52", after := #[{ on := 12, ground := Ground.data }], guard := none }) (v := ?vr13) rfl (by kernel_rfl) (by kernel_rfl) (by kernel_rfl) (fun _ _ _ h => HP.out _ _ _ _ _ h) (Or.inl ⟨by rfl, ?yr13⟩) (by assumption) ?rr13
          case yr13 => (intro w' hSw; (try dsimp only at hSw); go_simp; try with_reducible rfl)
          try simp only [Act.put, List.setIfInBounds_toArray, List.set_cons_zero, List.set_cons_succ]
          refine wpAnyH_take (i := 14) (oi := { dst := some 136, op := Op.load 59 (Operand.tmp 135), type := 59, pos := "ref.go:52", after := #[{ on := 13, ground := Ground.data }], guard := none }) (v := ?vr14) rfl (by kernel_rfl) (by kernel_rfl) (by kernel_rfl) (fun _ _ _ h => HP.out _ _ _ _ _ h) (Or.inl ⟨by rfl, ?yr14⟩) (by assumption) ?rr14
          case yr14 => (intro w' hSw; (try dsimp only at hSw); go_simp; try with_reducible rfl)
          try simp only [Act.put, List.setIfInBounds_toArray, List.set_cons_zero, List.set_cons_succ]
          refine wpAnyH_take (i := 15) (oi := { dst := some 137, op := Op.binOp BinOp.shr 59 (Operand.tmp 136) (Operand.const (Value.int IntKind.u64 10)) 68, type := 59, pos := "ref.go:52", after := #[{ on := 14, ground := Ground.data }], guard := none }) (v := ?vr15) rfl (by kernel_rfl) (by kernel_rfl) (by kernel_rfl) (fun _ _ _ h => HP.out _ _ _ _ _ h) (Or.inl ⟨by rfl, ?yr15⟩) (by assumption) ?rr15
          case yr15 => (intro w' hSw; (try dsimp only at hSw); go_simp; try with_reducible rfl)
          try simp only [Act.put, List.setIfInBounds_toArray, List.set_cons_zero, List.set_cons_succ]
          refine wpAnyH_ready (rs := [4]) (by kernel_rfl) (by simp) ?_
          refine AllReadyH.cons (o := { dst := some 126, op := Op.call { callee := Callee.value (Operand.func 36), args := #[Operand.tmp 125, Operand.const (Value.int IntKind.i64 17)], argTypes := #[59, 3] }, type := 59, pos := "ref.go:52", after := #[{ on := 3, ground := Ground.data }], guard := none }) rfl (fun K hK => ?_) AllReadyH.nil
          go_simp
          go_at_call 36
          refine (D3.out _).mono ?_
          rintro e w7 ⟨rfl, k7, hw7⟩
          have hb7 : Hid (Blk w7 X 62 (arr 64 l)) := Lib.hid (by rw [hw7]; exact hb6.out)
          have hB7 : Hid (Below X w w7) := Lib.hid (by rw [hw7]; exact below_drewN (below_drewN hB6.out 1) k7)
          have y7 : w7.cell? ⟨X, a3, none⟩ = some (.int .u32 (v3 : Int)) := by rw [hw7]; exact (XC.out _ hb6.out).2.2.2.1
          clear hw7
          dsimp only
          go_wp2_with fail
          refine hK.out _ _ (y7) (fun hHeldr4 => ?_)
          clear hK K hHeld
          try simp only [Act.put, List.setIfInBounds_toArray, List.set_cons_zero, List.set_cons_succ]
          refine wpAnyH_ready (rs := [9]) (by kernel_rfl) (by simp) ?_
          refine AllReadyH.cons (o := { dst := some 131, op := Op.call { callee := Callee.value (Operand.func 36), args := #[Operand.tmp 130, Operand.const (Value.int IntKind.i64 19)], argTypes := #[59, 3] }, type := 59, pos := "ref.go:52", after := #[{ on := 8, ground := Ground.data }, { on := 4, ground := Ground.chain }], guard := none }) rfl (fun K hK => ?_) AllReadyH.nil
          go_simp
          go_at_call 36
          refine (D4.out _).mono ?_
          rintro e w8 ⟨rfl, k8, hw8⟩
          have hb8 : Hid (Blk w8 X 62 (arr 64 l)) := Lib.hid (by rw [hw8]; exact hb7.out)
          have hB8 : Hid (Below X w w8) := Lib.hid (by rw [hw8]; exact below_drewN hB7.out k8)
          have y8' : w8.cell? ⟨X, a3, none⟩ = some (.int .u32 (v3 : Int)) := by rw [hw8]; exact (XC.out _ hb7.out).2.2.2.1
          clear hw8
          dsimp only
          go_wp2_with fail
          refine hK.out _ _ (y8') (fun hHeldr9 => ?_)
          clear hK K hHeldr4
          try simp only [Act.put, List.setIfInBounds_toArray, List.set_cons_zero, List.set_cons_succ]
          refine wpAnyH_take (i := 10) (oi := { dst := some 132, op := Op.binOp BinOp.xor 59 (Operand.tmp 126) (Operand.tmp 131) 59, type := 59, pos := "ref.go:52", after := #[{ on := 4, ground := Ground.data }, { on := 9, ground := Ground.data }], guard := none }) (v := ?vr10) rfl (by kernel_rfl) (by kernel_rfl) (by kernel_rfl) (fun _ _ _ h => HP.out _ _ _ _ _ h) (Or.inl ⟨by rfl, ?yr10⟩) (by assumption) ?rr10
          case yr10 => (intro w' hSw; (try dsimp only at hSw); go_simp; try with_reducible rfl)
          try simp only [Act.put, List.setIfInBounds_toArray, List.set_cons_zero, List.set_cons_succ]
          refine wpAnyH_take (i := 16) (oi := { dst := some 138, op := Op.binOp BinOp.xor 59 (Operand.tmp 132) (Operand.tmp 137) 59, type := 59, pos := "ref.go:52", after := #[{ on := 10, ground := Ground.data }, { on := 15, ground := Ground.data }], guard := none }) (v := ?vr16) rfl (by kernel_rfl) (by kernel_rfl) (by kernel_rfl) (fun _ _ _ h => HP.out _ _ _ _ _ h) (Or.inl ⟨by rfl, ?yr16⟩) (by assumption) ?rr16
          case yr16 => (intro w' hSw; (try dsimp only at hSw); go_simp; try with_reducible rfl)
          try simp only [Act.put, List.setIfInBounds_toArray, List.set_cons_zero, List.set_cons_succ]
          refine wpAnyH_take (i := 17) (oi := { dst := some 14, op := Op.assign (Operand.tmp 138), type := 59, pos := "ref.go:52", after := #[{ on := 16, ground := Ground.data }, { on := 9, ground := Ground.chain }, { on := 0, ground := Ground.phase }, { on := 1, ground := Ground.phase }, { on := 2, ground := Ground.phase }, { on := 3, ground := Ground.phase }, { on := 4, ground := Ground.phase }, { on := 5, ground := Ground.phase }, { on := 6, ground := Ground.phase }, { on := 7, ground := Ground.phase }, { on := 8, ground := Ground.phase }, { on := 9, ground := Ground.phase }, { on := 10, ground := Ground.phase }, { on := 11, ground := Ground.phase }, { on := 12, ground := Ground.phase }, { on := 13, ground := Ground.phase }, { on := 14, ground := Ground.phase }, { on := 15, ground := Ground.phase }, { on := 16, ground := Ground.phase }], guard := none }) (v := ?vr17) rfl (by kernel_rfl) (by kernel_rfl) (by kernel_rfl) (fun _ _ _ h => HP.out _ _ _ _ _ h) (Or.inl ⟨by rfl, ?yr17⟩) (by assumption) ?rr17
          case yr17 => (intro w' hSw; (try dsimp only at hSw); go_simp; try with_reducible rfl)
          try simp only [Act.put, List.setIfInBounds_toArray, List.set_cons_zero, List.set_cons_succ]
          refine wpAnyH_done (by kernel_rfl) ?_ _
          clear x3 y7 y8'
          go_upto_region 25 with fail
          have x0 : w8.drew.cell? ⟨X, a0', none⟩ = some (.int .u32 (v0 : Int)) := (XC.out _ hb8.out).1
          have x2 : w8.drew.cell? ⟨X, a2, none⟩ = some (.int .u32 (v2 : Int)) := (XC.out _ hb8.out).2.2.1
          have hc : w8.cell? ⟨X, i, none⟩ = some (.int .u32 0) := (XC.out _ hb8.out).2.2.2.2
          have hf := hb8.out.frozen i
          refine wp_region_held_drew (S := fun w' => w'.cell? ⟨X, a0', none⟩ = some (.int .u32 (v0 : Int)) ∧ w'.cell? ⟨X, a2, none⟩ = some (.int .u32 (v2 : Int))) (by kernel_rfl) (⟨x0, x2⟩) (fun hHeld => ?_)
          refine wpAnyH_take (i := 0) (oi := { dst := some 139, op := Op.move (Operand.tmp 12), type := 3, pos := "ref.go:53", after := #[], guard := none }) (v := ?vs0) rfl (by kernel_rfl) (by kernel_rfl) (by kernel_rfl) (fun _ _ _ h => HP.out _ _ _ _ _ h) (Or.inl ⟨by rfl, ?ys0⟩) (by assumption) ?rs0
          case ys0 => (intro w' hSw; (try dsimp only at hSw); go_simp; try with_reducible rfl)
          try simp only [Act.put, List.setIfInBounds_toArray, List.set_cons_zero, List.set_cons_succ]
          refine wpAnyH_take (i := 1) (oi := { dst := some 140, op := Op.move (Operand.tmp 12), type := 3, pos := "ref.go:53", after := #[], guard := none }) (v := ?vs1) rfl (by kernel_rfl) (by kernel_rfl) (by kernel_rfl) (fun _ _ _ h => HP.out _ _ _ _ _ h) (Or.inl ⟨by rfl, ?ys1⟩) (by assumption) ?rs1
          case ys1 => (intro w' hSw; (try dsimp only at hSw); go_simp; try with_reducible rfl)
          try simp only [Act.put, List.setIfInBounds_toArray, List.set_cons_zero, List.set_cons_succ]
          refine wpAnyH_take (i := 2) (oi := { dst := some 141, op := Op.binOp BinOp.sub 3 (Operand.tmp 140) (Operand.const (Value.int IntKind.i64 16)) 3, type := 3, pos := "ref.go:53", after := #[{ on := 1, ground := Ground.data }], guard := none }) (v := ?vs2) rfl (by kernel_rfl) (by kernel_rfl) (by kernel_rfl) (fun _ _ _ h => HP.out _ _ _ _ _ h) (Or.inl ⟨by rfl, ?ys2⟩) (by assumption) ?rs2
          case ys2 => (intro w' hSw; (try dsimp only at hSw); go_simp; try with_reducible rfl)
          try simp only [Act.put, List.setIfInBounds_toArray, List.set_cons_zero, List.set_cons_succ]
          refine wpAnyH_take (i := 3) (oi := { dst := some 142, op := Op.indexAddr 62 (Operand.tmp 9) (Operand.tmp 141), type := 0, pos := "ref.go:53", after := #[{ on := 2, ground := Ground.data }], guard := none }) (v := ?vs3) rfl (by kernel_rfl) (by kernel_rfl) (by kernel_rfl) (fun _ _ _ h => HP.out _ _ _ _ _ h) (Or.inl ⟨by rfl, ?ys3⟩) (by assumption) ?rs3
          case ys3 => (intro w' hSw; (try dsimp only at hSw); go_simp; try with_reducible rfl)
          try simp only [Act.put, List.setIfInBounds_toArray, List.set_cons_zero, List.set_cons_succ]
          refine wpAnyH_take (i := 4) (oi := { dst := some 143, op := Op.load 59 (Operand.tmp 142), type := 59, pos := "ref.go:53", after := #[{ on := 3, ground := Ground.data }], guard := none }) (v := ?vs4) rfl (by kernel_rfl) (by kernel_rfl) (by kernel_rfl) (fun _ _ _ h => HP.out _ _ _ _ _ h) (Or.inl ⟨by rfl, ?ys4⟩) (by assumption) ?rs4
          case ys4 => (intro w' hSw; (try dsimp only at hSw); go_simp; try with_reducible rfl)
          try simp only [Act.put, List.setIfInBounds_toArray, List.set_cons_zero, List.set_cons_succ]
          refine wpAnyH_take (i := 5) (oi := { dst := some 144, op := Op.move (Operand.tmp 13), type := 59, pos := "ref.go:53", after := #[], guard := none }) (v := ?vs5) rfl (by kernel_rfl) (by kernel_rfl) (by kernel_rfl) (fun _ _ _ h => HP.out _ _ _ _ _ h) (Or.inl ⟨by rfl, ?ys5⟩) (by assumption) ?rs5
          case ys5 => (intro w' hSw; (try dsimp only at hSw); go_simp; try with_reducible rfl)
          try simp only [Act.put, List.setIfInBounds_toArray, List.set_cons_zero, List.set_cons_succ]
          refine wpAnyH_take (i := 6) (oi := { dst := some 145, op := Op.binOp BinOp.add 59 (Operand.tmp 143) (Operand.tmp 144) 59, type := 59, pos := "ref.go:53", after := #[{ on := 4, ground := Ground.data }, { on := 5, ground := Ground.data }], guard := none }) (v := ?vs6) rfl (by kernel_rfl) (by kernel_rfl) (by kernel_rfl) (fun _ _ _ h => HP.out _ _ _ _ _ h) (Or.inl ⟨by rfl, ?ys6⟩) (by assumption) ?rs6
          case ys6 => (intro w' hSw; (try dsimp only at hSw); go_simp; try with_reducible rfl)
          try simp only [Act.put, List.setIfInBounds_toArray, List.set_cons_zero, List.set_cons_succ]
          refine wpAnyH_take (i := 7) (oi := { dst := some 146, op := Op.move (Operand.tmp 12), type := 3, pos := "ref.go:53", after := #[], guard := none }) (v := ?vs7) rfl (by kernel_rfl) (by kernel_rfl) (by kernel_rfl) (fun _ _ _ h => HP.out _ _ _ _ _ h) (Or.inl ⟨by rfl, ?ys7⟩) (by assumption) ?rs7
          case ys7 => (intro w' hSw; (try dsimp only at hSw); go_simp; try with_reducible rfl)
          try simp only [Act.put, List.setIfInBounds_toArray, List.set_cons_zero, List.set_cons_succ]
          refine wpAnyH_take (i := 8) (oi := { dst := some 147, op := Op.binOp BinOp.sub 3 (Operand.tmp 146) (Operand.const (Value.int IntKind.i64 7)) 3, type := 3, pos := "ref.go:53", after := #[{ on := 7, ground := Ground.data }], guard := none }) (v := ?vs8) rfl (by kernel_rfl) (by kernel_rfl) (by kernel_rfl) (fun _ _ _ h => HP.out _ _ _ _ _ h) (Or.inl ⟨by rfl, ?ys8⟩) (by assumption) ?rs8
          case ys8 => (intro w' hSw; (try dsimp only at hSw); go_simp; try with_reducible rfl)
          try simp only [Act.put, List.setIfInBounds_toArray, List.set_cons_zero, List.set_cons_succ]
          refine wpAnyH_take (i := 9) (oi := { dst := some 148, op := Op.indexAddr 62 (Operand.tmp 9) (Operand.tmp 147), type := 0, pos := "ref.go:53", after := #[{ on := 8, ground := Ground.data }], guard := none }) (v := ?vs9) rfl (by kernel_rfl) (by kernel_rfl) (by kernel_rfl) (fun _ _ _ h => HP.out _ _ _ _ _ h) (Or.inl ⟨by rfl, ?ys9⟩) (by assumption) ?rs9
          case ys9 => (intro w' hSw; (try dsimp only at hSw); go_simp; try with_reducible rfl)
          try simp only [Act.put, List.setIfInBounds_toArray, List.set_cons_zero, List.set_cons_succ]
          refine wpAnyH_take (i := 10) (oi := { dst := some 149, op := Op.load 59 (Operand.tmp 148), type := 59, pos := "ref.go:53", after := #[{ on := 9, ground := Ground.data }], guard := none }) (v := ?vs10) rfl (by kernel_rfl) (by kernel_rfl) (by kernel_rfl) (fun _ _ _ h => HP.out _ _ _ _ _ h) (Or.inl ⟨by rfl, ?ys10⟩) (by assumption) ?rs10
          case ys10 => (intro w' hSw; (try dsimp only at hSw); go_simp; try with_reducible rfl)
          try simp only [Act.put, List.setIfInBounds_toArray, List.set_cons_zero, List.set_cons_succ]
          refine wpAnyH_take (i := 11) (oi := { dst := some 150, op := Op.binOp BinOp.add 59 (Operand.tmp 145) (Operand.tmp 149) 59, type := 59, pos := "ref.go:53", after := #[{ on := 6, ground := Ground.data }, { on := 10, ground := Ground.data }], guard := none }) (v := ?vs11) rfl (by kernel_rfl) (by kernel_rfl) (by kernel_rfl) (fun _ _ _ h => HP.out _ _ _ _ _ h) (Or.inl ⟨by rfl, ?ys11⟩) (by assumption) ?rs11
          case ys11 => (intro w' hSw; (try dsimp only at hSw); go_simp; try with_reducible rfl)
          try simp only [Act.put, List.setIfInBounds_toArray, List.set_cons_zero, List.set_cons_succ]
          refine wpAnyH_take (i := 12) (oi := { dst := some 151, op := Op.move (Operand.tmp 14), type := 59, pos := "ref.go:53", after := #[], guard := none }) (v := ?vs12) rfl (by kernel_rfl) (by kernel_rfl) (by kernel_rfl) (fun _ _ _ h => HP.out _ _ _ _ _ h) (Or.inl ⟨by rfl, ?ys12⟩) (by assumption) ?rs12
          case ys12 => (intro w' hSw; (try dsimp only at hSw); go_simp; try with_reducible rfl)
          try simp only [Act.put, List.setIfInBounds_toArray, List.set_cons_zero, List.set_cons_succ]
          refine wpAnyH_take (i := 13) (oi := { dst := some 152, op := Op.binOp BinOp.add 59 (Operand.tmp 150) (Operand.tmp 151) 59, type := 59, pos := "ref.go:53", after := #[{ on := 11, ground := Ground.data }, { on := 12, ground := Ground.data }], guard := none }) (v := ?vs13) rfl (by kernel_rfl) (by kernel_rfl) (by kernel_rfl) (fun _ _ _ h => HP.out _ _ _ _ _ h) (Or.inl ⟨by rfl, ?ys13⟩) (by assumption) ?rs13
          case ys13 => (intro w' hSw; (try dsimp only at hSw); go_simp; try with_reducible rfl)
          try simp only [Act.put, List.setIfInBounds_toArray, List.set_cons_zero, List.set_cons_succ]
          refine wpAnyH_take (i := 14) (oi := { dst := some 153, op := Op.indexAddr 62 (Operand.tmp 9) (Operand.tmp 139), type := 0, pos := "ref.go:53", after := #[{ on := 0, ground := Ground.data }, { on := 0, ground := Ground.phase }, { on := 1, ground := Ground.phase }, { on := 2, ground := Ground.phase }, { on := 3, ground := Ground.phase }, { on := 4, ground := Ground.phase }, { on := 5, ground := Ground.phase }, { on := 6, ground := Ground.phase }, { on := 7, ground := Ground.phase }, { on := 8, ground := Ground.phase }, { on := 9, ground := Ground.phase }, { on := 10, ground := Ground.phase }, { on := 11, ground := Ground.phase }, { on := 12, ground := Ground.phase }, { on := 13, ground := Ground.phase }], guard := none }) (v := ?vs14) rfl (by kernel_rfl) (by kernel_rfl) (by kernel_rfl) (fun _ _ _ h => HP.out _ _ _ _ _ h) (Or.inl ⟨by rfl, ?ys14⟩) (by assumption) ?rs14
          case ys14 => (intro w' hSw; (try dsimp only at hSw); go_simp; try with_reducible rfl)
          try simp only [Act.put, List.setIfInBounds_toArray, List.set_cons_zero, List.set_cons_succ]
          refine wpAnyH_ready (rs := [15]) (by kernel_rfl) (by simp) ?_
          refine AllReadyH.cons (o := { dst := none, op := Op.store 59 (Operand.tmp 153) (Operand.tmp 152), type := 0, pos := "ref.go:53", after := #[{ on := 14, ground := Ground.data }, { on := 13, ground := Ground.data }, { on := 0, ground := Ground.phase }, { on := 1, ground := Ground.phase }, { on := 2, ground := Ground.phase }, { on := 3, ground := Ground.phase }, { on := 4, ground := Ground.phase }, { on := 5, ground := Ground.phase }, { on := 6, ground := Ground.phase }, { on := 7, ground := Ground.phase }, { on := 8, ground := Ground.phase }, { on := 9, ground := Ground.phase }, { on := 10, ground := Ground.phase }, { on := 11, ground := Ground.phase }, { on := 12, ground := Ground.phase }, { on := 13, ground := Ground.phase }], guard := none }) rfl (fun K hK => ?_) AllReadyH.nil
          go_simp
          refine hK.out _ _ (⟨(World.cell?_setCell_other _ ⟨X, i, none⟩ _ _ h0).trans x0, (World.cell?_setCell_other _ ⟨X, i, none⟩ _ _ h2).trans x2⟩) (fun hHelds15 => ?_)
          clear hK K hHeld
          try simp only [Act.put, List.setIfInBounds_toArray, List.set_cons_zero, List.set_cons_succ]
          refine wpAnyH_done (by kernel_rfl) ?_ _
          have HB2 : Hid (Blk ((w8.setCell ⟨X, i, none⟩ (.int .u32 (z3 : Nat))).drew) X 62 (arr 64 (sched ws (n_ + 1)))) := Lib.hid (by
            have h := hb8.out.set_ i (.int .u32 (z3 : Nat))
            have h2 := arr_set (n := 64) (l := l) (x := z3) (by rw [HI.out.2]; exact HLT.out)
            rw [HI.out.2] at h2
            rw [HSC.out, HNX.out, ← h2]
            exact h)
          have HB3 : Hid (Below X w ((w8.setCell ⟨X, i, none⟩ (.int .u32 (z3 : Nat))).drew)) := Lib.hid ((hB8.out.setCell (p := ⟨X, i, none⟩) (Nat.le_refl _) (.int .u32 (z3 : Nat))).drew)
          have HJ : Hid (i + 1 = 16 + (n_ + 1) ∧ n_ + 1 ≤ 48) := Lib.hid (by have := HI.out.1; have := HLT.out; omega)
          generalize (w8.setCell ⟨X, i, none⟩ (.int .u32 (z3 : Nat))).drew = WF at *
          clear x0 x2 hc hf e0 e1 e2 e3 q0 q1 q2 q3 y1 y2 y3 h0 h2 o1 o2 o3 o4 y9
          go_wp2_with fail
          go_roundw
          case rel => exact ⟨i + 1, n_ + 1, by go_num, HJ.out.1, HJ.out.2, HB2, HB3⟩
          case measure => have := HLT.out; simp [intOf]; omega
        · obtain rfl : i = 64 := by omega
          obtain rfl : n_ = 48 := by omega
          rw [show ((64 : Nat) : Int) = 64 from rfl]
          have HHX : Hid (H < X ∧ K < X) := Lib.hid (by rw [HXX.out]; exact ⟨HH.out.lt, HK.out.lt⟩)
          have hbH : Blk wr H 60 s.cells := (hB.out.block H HHX.out.1).trans HH.out
          have c0 : wr.cell? ⟨H, 0, none⟩ = some (.int .u32 s.a) := hbH.cell 0
          have c1 : wr.cell? ⟨H, 1, none⟩ = some (.int .u32 s.b) := hbH.cell 1
          have c2 : wr.cell? ⟨H, 2, none⟩ = some (.int .u32 s.c) := hbH.cell 2
          have c3 : wr.cell? ⟨H, 3, none⟩ = some (.int .u32 s.d) := hbH.cell 3
          have c4 : wr.cell? ⟨H, 4, none⟩ = some (.int .u32 s.e) := hbH.cell 4
          have c5' : wr.cell? ⟨H, 5, none⟩ = some (.int .u32 s.f) := hbH.cell 5
          have c6 : wr.cell? ⟨H, 6, none⟩ = some (.int .u32 s.g) := hbH.cell 6
          have c7 : wr.cell? ⟨H, 7, none⟩ = some (.int .u32 s.h) := hbH.cell 7
          clear hbH hin hn hlt
          go_upto_region 27 with fail
          have hl64 : (sched ws 48).length = 64 := by rw [sched_len, HLW.out]
          have HWE : Hid (sched ws 48 = sched (wordsOf m 16) 48) := Lib.hid (by rw [HWS.out])
          obtain ⟨ww, hww⟩ : ∃ ww, ww = sched ws 48 := ⟨_, rfl⟩
          rw [← hww] at hl64 HWE hb
          have HL64 := Lib.hid hl64
          clear hww hl64
          have A1 := Blk.new wr 60 #[.int .u32 (s.a : Int), .int .u32 (s.b : Int), .int .u32 (s.c : Int), .int .u32 (s.d : Int), .int .u32 (s.e : Int), .int .u32 (s.f : Int), .int .u32 (s.g : Int), .int .u32 (s.h : Int)]
          have A2 := hb.out.alloc (.cells #[.int .u32 (s.a : Int), .int .u32 (s.b : Int), .int .u32 (s.c : Int), .int .u32 (s.d : Int), .int .u32 (s.e : Int), .int .u32 (s.f : Int), .int .u32 (s.g : Int), .int .u32 (s.h : Int)] 60)
          have A3 := hB.out.alloc (by rw [HXX.out]; exact hB.out.size) (.cells #[.int .u32 (s.a : Int), .int .u32 (s.b : Int), .int .u32 (s.c : Int), .int .u32 (s.d : Int), .int .u32 (s.e : Int), .int .u32 (s.f : Int), .int .u32 (s.g : Int), .int .u32 (s.h : Int)] 60)
          have HXV : Hid (X < wr.heap.size) := Lib.hid hb.out.lt
          obtain ⟨W1, hW1⟩ : ∃ W1, W1 = wr.alloc (.cells #[.int .u32 (s.a : Int), .int .u32 (s.b : Int), .int .u32 (s.c : Int), .int .u32 (s.d : Int), .int .u32 (s.e : Int), .int .u32 (s.f : Int), .int .u32 (s.g : Int), .int .u32 (s.h : Int)] 60) := ⟨_, rfl⟩
          obtain ⟨V, hV⟩ : ∃ V, V = wr.heap.size := ⟨_, rfl⟩
          rw [← hW1, ← hV] at A1
          rw [← hW1] at A2 A3
          rw [← hV] at HXV
          rw [← hW1]
          rw [← hV]
          have T1 : Hid (R6 w W1 V X s ww) := Lib.hid ⟨A1, A2, A3⟩
          clear hV hW1 c0 c1 c2 c3 c4 c5' c6 c7 A1 A2 A3 hb hB
          go_wp2_with fail
          go_loopw [16] (fun s16 wr => ∃ i : Nat, s16 = .int .i64 i ∧ i ≤ 64 ∧ Hid (R6 w wr V X (rounds s kw ww i) ww)) (fun s16 _ => 64 - (intOf s16).toNat)
          case atStart => exact ⟨0, rfl, by omega, T1⟩
          case round =>
            clear T1
            obtain ⟨i, rfl, hi, hT⟩ := hrel
            have i0 : (0 : Int) ≤ (i : Int) := Int.natCast_nonneg _
            by_cases hlt : i < 64
            · have i1 : (i : Int) < 64 := by omega
              obtain ⟨r, hr⟩ : ∃ r, r = rounds s kw ww i := ⟨_, rfl⟩
              rw [← hr] at hT
              have HRO : r.ok := by rw [hr]; exact rounds_ok HS.out kw ww i
              have HRN : Hid (rounds s kw ww (i + 1) = round1 r (at0 kw i) (at0 ww i)) := Lib.hid (by rw [hr]; rfl)
              clear hr
              obtain ⟨ra, rb, rc, rd, re, rf, rg, rh⟩ := r
              obtain ⟨la, lb, lc, ld, le, lf, lg, lh⟩ := HRO
              dsimp only at la lb lc ld le lf lg lh
              have CV : Hid (∀ W, R6 w W V X ⟨ra, rb, rc, rd, re, rf, rg, rh⟩ ww → W.cell? ⟨V, 0, none⟩ = some (.int .u32 (ra : Int)) ∧ W.cell? ⟨V, 1, none⟩ = some (.int .u32 (rb : Int)) ∧ W.cell? ⟨V, 2, none⟩ = some (.int .u32 (rc : Int)) ∧ W.cell? ⟨V, 3, none⟩ = some (.int .u32 (rd : Int)) ∧ W.cell? ⟨V, 4, none⟩ = some (.int .u32 (re : Int)) ∧ W.cell? ⟨V, 5, none⟩ = some (.int .u32 (rf : Int)) ∧ W.cell? ⟨V, 6, none⟩ = some (.int .u32 (rg : Int)) ∧ W.cell? ⟨V, 7, none⟩ = some (.int .u32 (rh : Int))) :=
                Lib.hid fun W h => ⟨h.v.cell 0, h.v.cell 1, h.v.cell 2, h.v.cell 3, h.v.cell 4, h.v.cell 5, h.v.cell 6, h.v.cell 7⟩
              have CK : Hid (∀ W, R6 w W V X ⟨ra, rb, rc, rd, re, rf, rg, rh⟩ ww → W.cell? ⟨K, i, none⟩ = some (.int .u32 (at0 kw i : Int)) ∧ W.cell? ⟨X, i, none⟩ = some (.int .u32 (at0 ww i : Int))) := Lib.hid fun W h => by
                have hk : Blk W K 62 (arr 64 kw) := (h.bel.block K HHX.out.2).trans HK.out
                exact ⟨by rw [hk.cell, arr_at (by rw [kw_len]; exact hlt)], by rw [h.x.cell, arr_at (by rw [HL64.out]; exact hlt)]⟩
              have HT1 : Hid (t1F ⟨ra, rb, rc, rd, re, rf, rg, rh⟩ (at0 kw i) (at0 ww i) = ((((rh + turn3 6 11 25 re) % M32 + ((re &&& rf) ^^^ ((4294967295 - re) &&& rg))) % M32 + at0 kw i) % M32 + at0 ww i) % M32) := Lib.hid rfl
              have HT2 : Hid (t2F ⟨ra, rb, rc, rd, re, rf, rg, rh⟩ = (turn3 2 13 22 ra + ((ra &&& rb) ^^^ (ra &&& rc) ^^^ (rb &&& rc))) % M32) := Lib.hid rfl
              have HRN2 : Hid (rounds s kw ww (i + 1) = ⟨(t1F ⟨ra, rb, rc, rd, re, rf, rg, rh⟩ (at0 kw i) (at0 ww i) + t2F ⟨ra, rb, rc, rd, re, rf, rg, rh⟩) % M32, ra, rb, rc, (rd + t1F ⟨ra, rb, rc, rd, re, rf, rg, rh⟩ (at0 kw i) (at0 ww i)) % M32, re, rf, rg⟩) := Lib.hid HRN.out
              clear HRN
              have D1 := Lib.hid fun W => docTurn_any W re 6 le (by omega) (by omega)
              have D2 := Lib.hid fun W => docTurn_any W re 11 le (by omega) (by omega)
              have D3 := Lib.hid fun W => docTurn_any W re 25 le (by omega) (by omega)
              have D4 := Lib.hid fun W => docTurn_any W ra 2 la (by omega) (by omega)
              have D5 := Lib.hid fun W => docTurn_any W ra 13 la (by omega) (by omega)
              have D6 := Lib.hid fun W => docTurn_any W ra 22 la (by omega) (by omega)
              have j1 := rotr_lt (a := 6) le
              have j2 := rotr_lt (a := 11) le
              have j3 := rotr_lt (a := 25) le
              have j4 := rotr_lt (a := 2) la
              have j5 := rotr_lt (a := 13) la
              have j6 := rotr_lt (a := 22) la
              have o10 : bits .xor .u32 (rotr 6 re : Int) (rotr 11 re : Int) = ((rotr 6 re ^^^ rotr 11 re : Nat) : Int) := u32_xor_nat _ _ j1 j2
              have o11 : bits .xor .u32 ((rotr 6 re ^^^ rotr 11 re : Nat) : Int) (rotr 25 re : Int) = (turn3 6 11 25 re : Int) := u32_xor_nat _ _ (xor_lt32 j1 j2) j3
              have o12 : bits .xor .u32 (rotr 2 ra : Int) (rotr 13 ra : Int) = ((rotr 2 ra ^^^ rotr 13 ra : Nat) : Int) := u32_xor_nat _ _ j4 j5
              have o13 : bits .xor .u32 ((rotr 2 ra ^^^ rotr 13 ra : Nat) : Int) (rotr 22 ra : Int) = (turn3 2 13 22 ra : Int) := u32_xor_nat _ _ (xor_lt32 j4 j5) j6
              have o1 := u32_and_nat re rf le lf
              have o2 := u32_not le
              have ln : 4294967295 - re < M32 := Nat.lt_of_le_of_lt (Nat.sub_le _ _) (by decide)
              have o3 := u32_and_nat (4294967295 - re) rg ln lg
              have o4 := u32_xor_nat (re &&& rf) ((4294967295 - re) &&& rg) (and_lt32 lf) (and_lt32 lg)
              have o5 := u32_and_nat ra rb la lb
              have o6 := u32_and_nat ra rc la lc
              have o7 := u32_and_nat rb rc lb lc
              have o8 := u32_xor_nat (ra &&& rb) (ra &&& rc) (and_lt32 lb) (and_lt32 lc)
              have o9 := u32_xor_nat ((ra &&& rb) ^^^ (ra &&& rc)) (rb &&& rc) (xor_lt32 (and_lt32 lb) (and_lt32 lc)) (and_lt32 lc)
              have HLL := Lib.hid (And.intro la (And.intro lb (And.intro lc (And.intro ld (And.intro le (And.intro lf (And.intro lg lh)))))))
              clear la lb lc ld le lf lg lh ln j1 j2 j3 j4 j5 j6
              generalize t1F ⟨ra, rb, rc, rd, re, rf, rg, rh⟩ (at0 kw i) (at0 ww i) = p1 at *
              generalize t2F ⟨ra, rb, rc, rd, re, rf, rg, rh⟩ = p2 at *
              generalize turn3 6 11 25 re = t at *
              generalize turn3 2 13 22 ra = u at *
              generalize rotr 6 re ^^^ rotr 11 re = b12 at *
              generalize rotr 2 ra ^^^ rotr 13 ra = b45 at *
              generalize rotr 6 re = b1 at *
              generalize rotr 11 re = b2 at *
              generalize rotr 25 re = b3 at *
              generalize rotr 2 ra = b4 at *
              generalize rotr 13 ra = b5 at *
              generalize rotr 22 ra = b6 at *
              generalize at0 kw i = kx at *
              generalize at0 ww i = wx at *
              generalize (re &&& rf) ^^^ ((4294967295 - re) &&& rg) = ch at *
              generalize (ra &&& rb) ^^^ (ra &&& rc) ^^^ (rb &&& rc) = mj at *
              generalize (4294967295 - re) &&& rg = n2 at *
              generalize 4294967295 - re = ne at *
              generalize re &&& rf = n1 at *
              generalize (ra &&& rb) ^^^ (ra &&& rc) = n6 at *
              generalize ra &&& rb = n3 at *
              generalize ra &&& rc = n4 at *
              generalize rb &&& rc = n5 at *
              obtain ⟨z1, hz1⟩ : ∃ z, z = (rh + t) % M32 := ⟨_, rfl⟩
              obtain ⟨z2, hz2⟩ : ∃ z, z = (z1 + ch) % M32 := ⟨_, rfl⟩
              obtain ⟨z3, hz3⟩ : ∃ z, z = (z2 + kx) % M32 := ⟨_, rfl⟩
              obtain ⟨z5, hz5⟩ : ∃ z, z = (p1 + u) % M32 := ⟨_, rfl⟩
              have hp1 := HT1.out
              have hp2 := HT2.out
              rw [← hz1, ← hz2, ← hz3] at hp1
              obtain ⟨q1, hq1⟩ : ∃ z, z = (p1 + p2) % M32 := ⟨_, rfl⟩
              obtain ⟨q2, hq2⟩ : ∃ z, z = (rd + p1) % M32 := ⟨_, rfl⟩
              have HRN3 := HRN2.out
              rw [← hq1, ← hq2] at HRN3
              have HRN4 := Lib.hid HRN3
              have y1 : IntKind.u32.wrap ((rh : Int) + (t : Int)) = (z1 : Int) := by rw [u32_add, hz1]
              have y2 : IntKind.u32.wrap ((z1 : Int) + (ch : Int)) = (z2 : Int) := by rw [u32_add, hz2]
              have y3 : IntKind.u32.wrap ((z2 : Int) + (kx : Int)) = (z3 : Int) := by rw [u32_add, hz3]
              have y4 : IntKind.u32.wrap ((z3 : Int) + (wx : Int)) = (p1 : Int) := by rw [u32_add, hp1]
              have y5 : IntKind.u32.wrap ((p1 : Int) + (u : Int)) = (z5 : Int) := by rw [u32_add, hz5]
              have y6 : IntKind.u32.wrap ((z5 : Int) + (mj : Int)) = (q1 : Int) := by rw [u32_add, hq1, hz5, hp2, add3]
              have y7 : IntKind.u32.wrap ((rd : Int) + (p1 : Int)) = (q2 : Int) := by rw [u32_add, hq2]
              have HLT := Lib.hid hlt
              clear HRN2 HRN3 hp1 hp2 HT1 HT2 hz1 hz2 hz3 hz5 hq1 hq2 hlt hi
              go_upto_region 30 with fail
              have x4 : wr.drew.cell? ⟨V, 4, none⟩ = some (.int .u32 (re : Int)) := (CV.out _ hT.out).2.2.2.2.1
              refine wp_region_held_drew (S := fun w' => w'.cell? ⟨V, 4, none⟩ = some (.int .u32 (re : Int))) (by kernel_rfl) (x4) (fun hHeld => ?_)
              refine wpAnyH_take (i := 0) (oi := { dst := some 159, op := Op.indexAddr 60 (Operand.tmp 15) (Operand.const (Value.int IntKind.i64 4)), type := 0, pos := "ref.go:57", after := #[], guard := none }) (v := ?vt0) rfl (by kernel_rfl) (by kernel_rfl) (by kernel_rfl) (fun _ _ _ h => HP.out _ _ _ _ _ h) (Or.inl ⟨by rfl, ?yt0⟩) (by assumption) ?rt0
              case yt0 => (intro w' hSw; (try dsimp only at hSw); go_simp; try with_reducible rfl)
              try simp only [Act.put, List.setIfInBounds_toArray, List.set_cons_zero, List.set_cons_succ]
              refine wpAnyH_take (i := 1) (oi := { dst := some 160, op := Op.load 59 (Operand.tmp 159), type := 59, pos := "ref.go:57", after := #[{ on := 0, ground := Ground.data }], guard := none }) (v := ?vt1) rfl (by kernel_rfl) (by kernel_rfl) (by kernel_rfl) (fun _ _ _ h => HP.out _ _ _ _ _ h) (Or.inl ⟨by rfl, ?yt1⟩) (by assumption) ?rt1
              case yt1 => (intro w' hSw; (try dsimp only at hSw); go_simp; try with_reducible rfl)
              try simp only [Act.put, List.setIfInBounds_toArray, List.set_cons_zero, List.set_cons_succ]
              refine wpAnyH_take (i := 3) (oi := { dst := some 162, op := Op.indexAddr 60 (Operand.tmp 15) (Operand.const (Value.int IntKind.i64 4)), type := 0, pos := "ref.go:57", after := #[], guard := none }) (v := ?vt3) rfl (by kernel_rfl) (by kernel_rfl) (by kernel_rfl) (fun _ _ _ h => HP.out _ _ _ _ _ h) (Or.inl ⟨by rfl, ?yt3⟩) (by assumption) ?rt3
              case yt3 => (intro w' hSw; (try dsimp only at hSw); go_simp; try with_reducible rfl)
              try simp only [Act.put, List.setIfInBounds_toArray, List.set_cons_zero, List.set_cons_succ]
              refine wpAnyH_take (i := 4) (oi := { dst := some 163, op := Op.load 59 (Operand.tmp 162), type := 59, pos := "ref.go:57", after := #[{ on := 3, ground := Ground.data }], guard := none }) (v := ?vt4) rfl (by kernel_rfl) (by kernel_rfl) (by kernel_rfl) (fun _ _ _ h => HP.out _ _ _ _ _ h) (Or.inl ⟨by rfl, ?yt4⟩) (by assumption) ?rt4
              case yt4 => (intro w' hSw; (try dsimp only at hSw); go_simp; try with_reducible rfl)
              try simp only [Act.put, List.setIfInBounds_toArray, List.set_cons_zero, List.set_cons_succ]
              refine wpAnyH_take (i := 7) (oi := { dst := some 166, op := Op.indexAddr 60 (Operand.tmp 15) (Operand.const (Value.int IntKind.i64 4)), type := 0, pos := "ref.go:57", after := #[], guard := none }) (v := ?vt7) rfl (by kernel_rfl) (by kernel_rfl) (by kernel_rfl) (fun _ _ _ h => HP.out _ _ _ _ _ h) (Or.inl ⟨by rfl, ?yt7⟩) (by assumption) ?rt7
              case yt7 => (intro w' hSw; (try dsimp only at hSw); go_simp; try with_reducible rfl)
              try simp only [Act.put, List.setIfInBounds_toArray, List.set_cons_zero, List.set_cons_succ]
              refine wpAnyH_take (i := 8) (oi := { dst := some 167, op := Op.load 59 (Operand.tmp 166), type := 59, pos := "ref.go:57", after := #[{ on := 7, ground := Ground.data }], guard := none }) (v := ?vt8) rfl (by kernel_rfl) (by kernel_rfl) (by kernel_rfl) (fun _ _ _ h => HP.out _ _ _ _ _ h) (Or.inl ⟨by rfl, ?yt8⟩) (by assumption) ?rt8
              case yt8 => (intro w' hSw; (try dsimp only at hSw); go_simp; try with_reducible rfl)
              try simp only [Act.put, List.setIfInBounds_toArray, List.set_cons_zero, List.set_cons_succ]
              refine wpAnyH_ready (rs := [2]) (by kernel_rfl) (by simp) ?_
              refine AllReadyH.cons (o := { dst := some 161, op := Op.call { callee := Callee.value (Operand.func 36), args := #[Operand.tmp 160, Operand.const (Value.int IntKind.i64 6)], argTypes := #[59, 3] }, type := 59, pos := "ref.go:57", after := #[{ on := 1, ground := Ground.data }], guard := none }) rfl (fun K hK => ?_) AllReadyH.nil
              go_simp
              go_at_call 36
              refine (D1.out _).mono ?_
              rintro e w5 ⟨rfl, k5, hw5⟩
              have T5 : Hid (R6 w w5 V X ⟨ra, rb, rc, rd, re, rf, rg, rh⟩ ww) := Lib.hid (by rw [hw5]; exact ((hT.out.drewN 1).drewN k5))
              have xa5 : w5.cell? ⟨V, 4, none⟩ = some (.int .u32 (re : Int)) := (CV.out _ T5.out).2.2.2.2.1
              clear hw5
              dsimp only
              go_wp2_with fail
              refine hK.out _ _ (xa5) (fun hHeldt2 => ?_)
              clear hK K hHeld
              try simp only [Act.put, List.setIfInBounds_toArray, List.set_cons_zero, List.set_cons_succ]
              refine wpAnyH_ready (rs := [5]) (by kernel_rfl) (by simp) ?_
              refine AllReadyH.cons (o := { dst := some 164, op := Op.call { callee := Callee.value (Operand.func 36), args := #[Operand.tmp 163, Operand.const (Value.int IntKind.i64 11)], argTypes := #[59, 3] }, type := 59, pos := "ref.go:57", after := #[{ on := 4, ground := Ground.data }, { on := 2, ground := Ground.chain }], guard := none }) rfl (fun K hK => ?_) AllReadyH.nil
              go_simp
              go_at_call 36
              refine (D2.out _).mono ?_
              rintro e w6 ⟨rfl, k6, hw6⟩
              have T6 : Hid (R6 w w6 V X ⟨ra, rb, rc, rd, re, rf, rg, rh⟩ ww) := Lib.hid (by rw [hw6]; exact (T5.out.drewN k6))
              have xa6 : w6.cell? ⟨V, 4, none⟩ = some (.int .u32 (re : Int)) := (CV.out _ T6.out).2.2.2.2.1
              clear hw6
              dsimp only
              go_wp2_with fail
              refine hK.out _ _ (xa6) (fun hHeldt5 => ?_)
              clear hK K hHeldt2
              try simp only [Act.put, List.setIfInBounds_toArray, List.set_cons_zero, List.set_cons_succ]
              refine wpAnyH_take (i := 6) (oi := { dst := some 165, op := Op.binOp BinOp.xor 59 (Operand.tmp 161) (Operand.tmp 164) 59, type := 59, pos := "ref.go:57", after := #[{ on := 2, ground := Ground.data }, { on := 5, ground := Ground.data }], guard := none }) (v := ?vt6) rfl (by kernel_rfl) (by kernel_rfl) (by kernel_rfl) (fun _ _ _ h => HP.out _ _ _ _ _ h) (Or.inl ⟨by rfl, ?yt6⟩) (by assumption) ?rt6
              case yt6 => (intro w' hSw; (try dsimp only at hSw); go_simp; try with_reducible rfl)
              try simp only [Act.put, List.setIfInBounds_toArray, List.set_cons_zero, List.set_cons_succ]
              refine wpAnyH_ready (rs := [9]) (by kernel_rfl) (by simp) ?_
              refine AllReadyH.cons (o := { dst := some 168, op := Op.call { callee := Callee.value (Operand.func 36), args := #[Operand.tmp 167, Operand.const (Value.int IntKind.i64 25)], argTypes := #[59, 3] }, type := 59, pos := "ref.go:57", after := #[{ on := 8, ground := Ground.data }, { on := 5, ground := Ground.chain }], guard := none }) rfl (fun K hK => ?_) AllReadyH.nil
              go_simp
              go_at_call 36
              refine (D3.out _).mono ?_
              rintro e w7 ⟨rfl, k7, hw7⟩
              have T7 : Hid (R6 w w7 V X ⟨ra, rb, rc, rd, re, rf, rg, rh⟩ ww) := Lib.hid (by rw [hw7]; exact (T6.out.drewN k7))
              have xa7 : w7.cell? ⟨V, 4, none⟩ = some (.int .u32 (re : Int)) := (CV.out _ T7.out).2.2.2.2.1
              clear hw7
              dsimp only
              go_wp2_with fail
              refine hK.out _ _ (xa7) (fun hHeldt9 => ?_)
              clear hK K hHeldt5
              try simp only [Act.put, List.setIfInBounds_toArray, List.set_cons_zero, List.set_cons_succ]
              refine wpAnyH_take (i := 10) (oi := { dst := some 169, op := Op.binOp BinOp.xor 59 (Operand.tmp 165) (Operand.tmp 168) 59, type := 59, pos := "ref.go:57", after := #[{ on := 6, ground := Ground.data }, { on := 9, ground := Ground.data }], guard := none }) (v := ?vt10) rfl (by kernel_rfl) (by kernel_rfl) (by kernel_rfl) (fun _ _ _ h => HP.out _ _ _ _ _ h) (Or.inl ⟨by rfl, ?yt10⟩) (by assumption) ?rt10
              case yt10 => (intro w' hSw; (try dsimp only at hSw); go_simp; try with_reducible rfl)
              try simp only [Act.put, List.setIfInBounds_toArray, List.set_cons_zero, List.set_cons_succ]
              refine wpAnyH_take (i := 11) (oi := { dst := some 17, op := Op.assign (Operand.tmp 169), type := 59, pos := "ref.go:57", after := #[{ on := 10, ground := Ground.data }, { on := 9, ground := Ground.chain }, { on := 0, ground := Ground.phase }, { on := 1, ground := Ground.phase }, { on := 2, ground := Ground.phase }, { on := 3, ground := Ground.phase }, { on := 4, ground := Ground.phase }, { on := 5, ground := Ground.phase }, { on := 6, ground := Ground.phase }, { on := 7, ground := Ground.phase }, { on := 8, ground := Ground.phase }, { on := 9, ground := Ground.phase }, { on := 10, ground := Ground.phase }], guard := none }) (v := ?vt11) rfl (by kernel_rfl) (by kernel_rfl) (by kernel_rfl) (fun _ _ _ h => HP.out _ _ _ _ _ h) (Or.inl ⟨by rfl, ?yt11⟩) (by assumption) ?rt11
              case yt11 => (intro w' hSw; (try dsimp only at hSw); go_simp; try with_reducible rfl)
              try simp only [Act.put, List.setIfInBounds_toArray, List.set_cons_zero, List.set_cons_succ]
              refine wpAnyH_done (by kernel_rfl) ?_ _
              clear x4 xa5 xa6
              have v4 := (CV.out _ T7.out).2.2.2.2.1
              have v5 := (CV.out _ T7.out).2.2.2.2.2.1
              have v6 := (CV.out _ T7.out).2.2.2.2.2.2.1
              go_upto_region 32 with fail
              clear v4 v5 v6 xa7
              have T7d : Hid (R6 w w7.drew V X ⟨ra, rb, rc, rd, re, rf, rg, rh⟩ ww) := Lib.hid (T7.out.drewN 1)
              have x7 : w7.drew.cell? ⟨V, 7, none⟩ = some (.int .u32 (rh : Int)) := (CV.out _ T7d.out).2.2.2.2.2.2.2
              have xk : w7.drew.cell? ⟨K, i, none⟩ = some (.int .u32 (kx : Int)) := (CK.out _ T7d.out).1
              have xw : w7.drew.cell? ⟨X, i, none⟩ = some (.int .u32 (wx : Int)) := (CK.out _ T7d.out).2
              refine wp_region_held_drew (S := fun w' => w'.cell? ⟨V, 7, none⟩ = some (.int .u32 (rh : Int)) ∧ w'.cell? ⟨K, i, none⟩ = some (.int .u32 (kx : Int)) ∧ w'.cell? ⟨X, i, none⟩ = some (.int .u32 (wx : Int))) (by kernel_rfl) (⟨x7, xk, xw⟩) (fun hHeld => ?_)
              refine wpAnyH_take (i := 0) (oi := { dst := some 182, op := Op.indexAddr 60 (Operand.tmp 15) (Operand.const (Value.int IntKind.i64 7)), type := 0, pos := "ref.go:59", after := #[], guard := none }) (v := ?vu0) rfl (by kernel_rfl) (by kernel_rfl) (by kernel_rfl) (fun _ _ _ h => HP.out _ _ _ _ _ h) (Or.inl ⟨by rfl, ?yu0⟩) (by assumption) ?ru0
              case yu0 => (intro w' hSw; (try dsimp only at hSw); go_simp; try with_reducible rfl)
              try simp only [Act.put, List.setIfInBounds_toArray, List.set_cons_zero, List.set_cons_succ]
              refine wpAnyH_take (i := 1) (oi := { dst := some 183, op := Op.load 59 (Operand.tmp 182), type := 59, pos := "ref.go:59", after := #[{ on := 0, ground := Ground.data }], guard := none }) (v := ?vu1) rfl (by kernel_rfl) (by kernel_rfl) (by kernel_rfl) (fun _ _ _ h => HP.out _ _ _ _ _ h) (Or.inl ⟨by rfl, ?yu1⟩) (by assumption) ?ru1
              case yu1 => (intro w' hSw; (try dsimp only at hSw); go_simp; try with_reducible rfl)
              try simp only [Act.put, List.setIfInBounds_toArray, List.set_cons_zero, List.set_cons_succ]
              refine wpAnyH_take (i := 2) (oi := { dst := some 184, op := Op.move (Operand.tmp 17), type := 59, pos := "ref.go:59", after := #[], guard := none }) (v := ?vu2) rfl (by kernel_rfl) (by kernel_rfl) (by kernel_rfl) (fun _ _ _ h => HP.out _ _ _ _ _ h) (Or.inl ⟨by rfl, ?yu2⟩) (by assumption) ?ru2
              case yu2 => (intro w' hSw; (try dsimp only at hSw); go_simp; try with_reducible rfl)
              try simp only [Act.put, List.setIfInBounds_toArray, List.set_cons_zero, List.set_cons_succ]
              refine wpAnyH_take (i := 3) (oi := { dst := some 185, op := Op.binOp BinOp.add 59 (Operand.tmp 183) (Operand.tmp 184) 59, type := 59, pos := "ref.go:59", after := #[{ on := 1, ground := Ground.data }, { on := 2, ground := Ground.data }], guard := none }) (v := ?vu3) rfl (by kernel_rfl) (by kernel_rfl) (by kernel_rfl) (fun _ _ _ h => HP.out _ _ _ _ _ h) (Or.inl ⟨by rfl, ?yu3⟩) (by assumption) ?ru3
              case yu3 => (intro w' hSw; (try dsimp only at hSw); go_simp; try with_reducible rfl)
              try simp only [Act.put, List.setIfInBounds_toArray, List.set_cons_zero, List.set_cons_succ]
              refine wpAnyH_take (i := 4) (oi := { dst := some 186, op := Op.move (Operand.tmp 18), type := 59, pos := "ref.go:59", after := #[], guard := none }) (v := ?vu4) rfl (by kernel_rfl) (by kernel_rfl) (by kernel_rfl) (fun _ _ _ h => HP.out _ _ _ _ _ h) (Or.inl ⟨by rfl, ?yu4⟩) (by assumption) ?ru4
              case yu4 => (intro w' hSw; (try dsimp only at hSw); go_simp; try with_reducible rfl)
              try simp only [Act.put, List.setIfInBounds_toArray, List.set_cons_zero, List.set_cons_succ]
              refine wpAnyH_take (i := 5) (oi := { dst := some 187, op := Op.binOp BinOp.add 59 (Operand.tmp 185) (Operand.tmp 186) 59, type := 59, pos := "ref.go:59", after := #[{ on := 3, ground := Ground.data }, { on := 4, ground := Ground.data }], guard := none }) (v := ?vu5) rfl (by kernel_rfl) (by kernel_rfl) (by kernel_rfl) (fun _ _ _ h => HP.out _ _ _ _ _ h) (Or.inl ⟨by rfl, ?yu5⟩) (by assumption) ?ru5
              case yu5 => (intro w' hSw; (try dsimp only at hSw); go_simp; try with_reducible rfl)
              try simp only [Act.put, List.setIfInBounds_toArray, List.set_cons_zero, List.set_cons_succ]
              refine wpAnyH_take (i := 6) (oi := { dst := some 188, op := Op.move (Operand.tmp 16), type := 3, pos := "ref.go:59", after := #[], guard := none }) (v := ?vu6) rfl (by kernel_rfl) (by kernel_rfl) (by kernel_rfl) (fun _ _ _ h => HP.out _ _ _ _ _ h) (Or.inl ⟨by rfl, ?yu6⟩) (by assumption) ?ru6
              case yu6 => (intro w' hSw; (try dsimp only at hSw); go_simp; try with_reducible rfl)
              try simp only [Act.put, List.setIfInBounds_toArray, List.set_cons_zero, List.set_cons_succ]
              refine wpAnyH_take (i := 7) (oi := { dst := some 189, op := Op.indexAddr 62 (Operand.tmp 4) (Operand.tmp 188), type := 0, pos := "ref.go:59", after := #[{ on := 6, ground := Ground.data }], guard := none }) (v := ?vu7) rfl (by kernel_rfl) (by kernel_rfl) (by kernel_rfl) (fun _ _ _ h => HP.out _ _ _ _ _ h) (Or.inl ⟨by rfl, ?yu7⟩) (by assumption) ?ru7
              case yu7 => (intro w' hSw; (try dsimp only at hSw); go_simp; try with_reducible rfl)
              try simp only [Act.put, List.setIfInBounds_toArray, List.set_cons_zero, List.set_cons_succ]
              refine wpAnyH_take (i := 8) (oi := { dst := some 190, op := Op.load 59 (Operand.tmp 189), type := 59, pos := "ref.go:59", after := #[{ on := 7, ground := Ground.data }], guard := none }) (v := ?vu8) rfl (by kernel_rfl) (by kernel_rfl) (by kernel_rfl) (fun _ _ _ h => HP.out _ _ _ _ _ h) (Or.inl ⟨by rfl, ?yu8⟩) (by assumption) ?ru8
              case yu8 => (intro w' hSw; (try dsimp only at hSw); go_simp; try with_reducible rfl)
              try simp only [Act.put, List.setIfInBounds_toArray, List.set_cons_zero, List.set_cons_succ]
              refine wpAnyH_take (i := 9) (oi := { dst := some 191, op := Op.binOp BinOp.add 59 (Operand.tmp 187) (Operand.tmp 190) 59, type := 59, pos := "ref.go:59", after := #[{ on := 5, ground := Ground.data }, { on := 8, ground := Ground.data }], guard := none }) (v := ?vu9) rfl (by kernel_rfl) (by kernel_rfl) (by kernel_rfl) (fun _ _ _ h => HP.out _ _ _ _ _ h) (Or.inl ⟨by rfl, ?yu9⟩) (by assumption) ?ru9
              case yu9 => (intro w' hSw; (try dsimp only at hSw); go_simp; try with_reducible rfl)
              try simp only [Act.put, List.setIfInBounds_toArray, List.set_cons_zero, List.set_cons_succ]
              refine wpAnyH_take (i := 10) (oi := { dst := some 192, op := Op.move (Operand.tmp 16), type := 3, pos := "ref.go:59", after := #[], guard := none }) (v := ?vu10) rfl (by kernel_rfl) (by kernel_rfl) (by kernel_rfl) (fun _ _ _ h => HP.out _ _ _ _ _ h) (Or.inl ⟨by rfl, ?yu10⟩) (by assumption) ?ru10
              case yu10 => (intro w' hSw; (try dsimp only at hSw); go_simp; try with_reducible rfl)
              try simp only [Act.put, List.setIfInBounds_toArray, List.set_cons_zero, List.set_cons_succ]
              refine wpAnyH_take (i := 11) (oi := { dst := some 193, op := Op.indexAddr 62 (Operand.tmp 9) (Operand.tmp 192), type := 0, pos := "ref.go:59", after := #[{ on := 10, ground := Ground.data }], guard := none }) (v := ?vu11) rfl (by kernel_rfl) (by kernel_rfl) (by kernel_rfl) (fun _ _ _ h => HP.out _ _ _ _ _ h) (Or.inl ⟨by rfl, ?yu11⟩) (by assumption) ?ru11
              case yu11 => (intro w' hSw; (try dsimp only at hSw); go_simp; try with_reducible rfl)
              try simp only [Act.put, List.setIfInBounds_toArray, List.set_cons_zero, List.set_cons_succ]
              refine wpAnyH_take (i := 12) (oi := { dst := some 194, op := Op.load 59 (Operand.tmp 193), type := 59, pos := "ref.go:59", after := #[{ on := 11, ground := Ground.data }], guard := none }) (v := ?vu12) rfl (by kernel_rfl) (by kernel_rfl) (by kernel_rfl) (fun _ _ _ h => HP.out _ _ _ _ _ h) (Or.inl ⟨by rfl, ?yu12⟩) (by assumption) ?ru12
              case yu12 => (intro w' hSw; (try dsimp only at hSw); go_simp; try with_reducible rfl)
              try simp only [Act.put, List.setIfInBounds_toArray, List.set_cons_zero, List.set_cons_succ]
              refine wpAnyH_take (i := 13) (oi := { dst := some 195, op := Op.binOp BinOp.add 59 (Operand.tmp 191) (Operand.tmp 194) 59, type := 59, pos := "ref.go:59", after := #[{ on := 9, ground := Ground.data }, { on := 12, ground := Ground.data }], guard := none }) (v := ?vu13) rfl (by kernel_rfl) (by kernel_rfl) (by kernel_rfl) (fun _ _ _ h => HP.out _ _ _ _ _ h) (Or.inl ⟨by rfl, ?yu13⟩) (by assumption) ?ru13
              case yu13 => (intro w' hSw; (try dsimp only at hSw); go_simp; try with_reducible rfl)
              try simp only [Act.put, List.setIfInBounds_toArray, List.set_cons_zero, List.set_cons_succ]
              refine wpAnyH_take (i := 14) (oi := { dst := some 19, op := Op.assign (Operand.tmp 195), type := 59, pos := "ref.go:59", after := #[{ on := 13, ground := Ground.data }, { on := 0, ground := Ground.phase }, { on := 1, ground := Ground.phase }, { on := 2, ground := Ground.phase }, { on := 3, ground := Ground.phase }, { on := 4, ground := Ground.phase }, { on := 5, ground := Ground.phase }, { on := 6, ground := Ground.phase }, { on := 7, ground := Ground.phase }, { on := 8, ground := Ground.phase }, { on := 9, ground := Ground.phase }, { on := 10, ground := Ground.phase }, { on := 11, ground := Ground.phase }, { on := 12, ground := Ground.phase }, { on := 13, ground := Ground.phase }], guard := none }) (v := ?vu14) rfl (by kernel_rfl) (by kernel_rfl) (by kernel_rfl) (fun _ _ _ h => HP.out _ _ _ _ _ h) (Or.inl ⟨by rfl, ?yu14⟩) (by assumption) ?ru14
              case yu14 => (intro w' hSw; (try dsimp only at hSw); go_simp; try with_reducible rfl)
              try simp only [Act.put, List.setIfInBounds_toArray, List.set_cons_zero, List.set_cons_succ]
              refine wpAnyH_done (by kernel_rfl) ?_ _
              clear x7 xk xw
              generalize w7.drew = wd at *
              go_upto_region 33 with fail
              have x0 : wd.drew.cell? ⟨V, 0, none⟩ = some (.int .u32 (ra : Int)) := (CV.out _ T7d.out).1
              refine wp_region_held_drew (S := fun w' => w'.cell? ⟨V, 0, none⟩ = some (.int .u32 (ra : Int))) (by kernel_rfl) (x0) (fun hHeld => ?_)
              refine wpAnyH_take (i := 0) (oi := { dst := some 196, op := Op.indexAddr 60 (Operand.tmp 15) (Operand.const (Value.int IntKind.i64 0)), type := 0, pos := "ref.go:60", after := #[], guard := none }) (v := ?vv0) rfl (by kernel_rfl) (by kernel_rfl) (by kernel_rfl) (fun _ _ _ h => HP.out _ _ _ _ _ h) (Or.inl ⟨by rfl, ?yv0⟩) (by assumption) ?rv0
              case yv0 => (intro w' hSw; (try dsimp only at hSw); go_simp; try with_reducible rfl)
              try simp only [Act.put, List.setIfInBounds_toArray, List.set_cons_zero, List.set_cons_succ]
              refine wpAnyH_take (i := 1) (oi := { dst := some 197, op := Op.load 59 (Operand.tmp 196), type := 59, pos := "ref.go:60", after := #[{ on := 0, ground := Ground.data }], guard := none }) (v := ?vv1) rfl (by kernel_rfl) (by kernel_rfl) (by kernel_rfl) (fun _ _ _ h => HP.out _ _ _ _ _ h) (Or.inl ⟨by rfl, ?yv1⟩) (by assumption) ?rv1
              case yv1 => (intro w' hSw; (try dsimp only at hSw); go_simp; try with_reducible rfl)
              try simp only [Act.put, List.setIfInBounds_toArray, List.set_cons_zero, List.set_cons_succ]
              refine wpAnyH_take (i := 3) (oi := { dst := some 199, op := Op.indexAddr 60 (Operand.tmp 15) (Operand.const (Value.int IntKind.i64 0)), type := 0, pos := "ref.go:60", after := #[], guard := none }) (v := ?vv3) rfl (by kernel_rfl) (by kernel_rfl) (by kernel_rfl) (fun _ _ _ h => HP.out _ _ _ _ _ h) (Or.inl ⟨by rfl, ?yv3⟩) (by assumption) ?rv3
              case yv3 => (intro w' hSw; (try dsimp only at hSw); go_simp; try with_reducible rfl)
              try simp only [Act.put, List.setIfInBounds_toArray, List.set_cons_zero, List.set_cons_succ]
              refine wpAnyH_take (i := 4) (oi := { dst := some 200, op := Op.load 59 (Operand.tmp 199), type := 59, pos := "ref.go:60", after := #[{ on := 3, ground := Ground.data }], guard := none }) (v := ?vv4) rfl (by kernel_rfl) (by kernel_rfl) (by kernel_rfl) (fun _ _ _ h => HP.out _ _ _ _ _ h) (Or.inl ⟨by rfl, ?yv4⟩) (by assumption) ?rv4
              case yv4 => (intro w' hSw; (try dsimp only at hSw); go_simp; try with_reducible rfl)
              try simp only [Act.put, List.setIfInBounds_toArray, List.set_cons_zero, List.set_cons_succ]
              refine wpAnyH_take (i := 7) (oi := { dst := some 203, op := Op.indexAddr 60 (Operand.tmp 15) (Operand.const (Value.int IntKind.i64 0)), type := 0, pos := "ref.go:60", after := #[], guard := none }) (v := ?vv7) rfl (by kernel_rfl) (by kernel_rfl) (by kernel_rfl) (fun _ _ _ h => HP.out _ _ _ _ _ h) (Or.inl ⟨by rfl, ?yv7⟩) (by assumption) ?rv7
              case yv7 => (intro w' hSw; (try dsimp only at hSw); go_simp; try with_reducible rfl)
              try simp only [Act.put, List.setIfInBounds_toArray, List.set_cons_zero, List.set_cons_succ]
              refine wpAnyH_take (i := 8) (oi := { dst := some 204, op := Op.load 59 (Operand.tmp 203), type := 59, pos := "ref.go:60", after := #[{ on := 7, ground := Ground.data }], guard := none }) (v := ?vv8) rfl (by kernel_rfl) (by kernel_rfl) (by kernel_rfl) (fun _ _ _ h => HP.out _ _ _ _ _ h) (Or.inl ⟨by rfl, ?yv8⟩) (by assumption) ?rv8
              case yv8 => (intro w' hSw; (try dsimp only at hSw); go_simp; try with_reducible rfl)
              try simp only [Act.put, List.setIfInBounds_toArray, List.set_cons_zero, List.set_cons_succ]
              refine wpAnyH_ready (rs := [2]) (by kernel_rfl) (by simp) ?_
              refine AllReadyH.cons (o := { dst := some 198, op := Op.call { callee := Callee.value (Operand.func 36), args := #[Operand.tmp 197, Operand.const (Value.int IntKind.i64 2)], argTypes := #[59, 3] }, type := 59, pos := "ref.go:60", after := #[{ on := 1, ground := Ground.data }], guard := none }) rfl (fun K hK => ?_) AllReadyH.nil
              go_simp
              go_at_call 36
              refine (D4.out _).mono ?_
              rintro e w8 ⟨rfl, k8, hw8⟩
              have T8 : Hid (R6 w w8 V X ⟨ra, rb, rc, rd, re, rf, rg, rh⟩ ww) := Lib.hid (by rw [hw8]; exact ((T7d.out.drewN 1).drewN k8))
              have xa8 : w8.cell? ⟨V, 0, none⟩ = some (.int .u32 (ra : Int)) := (CV.out _ T8.out).1
              clear hw8
              dsimp only
              go_wp2_with fail
              refine hK.out _ _ (xa8) (fun hHeldv2 => ?_)
              clear hK K hHeld
              try simp only [Act.put, List.setIfInBounds_toArray, List.set_cons_zero, List.set_cons_succ]
              refine wpAnyH_ready (rs := [5]) (by kernel_rfl) (by simp) ?_
              refine AllReadyH.cons (o := { dst := some 201, op := Op.call { callee := Callee.value (Operand.func 36), args := #[Operand.tmp 200, Operand.const (Value.int IntKind.i64 13)], argTypes := #[59, 3] }, type := 59, pos := "ref.go:60", after := #[{ on := 4, ground := Ground.data }, { on := 2, ground := Ground.chain }], guard := none }) rfl (fun K hK => ?_) AllReadyH.nil
              go_simp
              go_at_call 36
              refine (D5.out _).mono ?_
              rintro e w9 ⟨rfl, k9, hw9⟩
              have T9 : Hid (R6 w w9 V X ⟨ra, rb, rc, rd, re, rf, rg, rh⟩ ww) := Lib.hid (by rw [hw9]; exact (T8.out.drewN k9))
              have xa9 : w9.cell? ⟨V, 0, none⟩ = some (.int .u32 (ra : Int)) := (CV.out _ T9.out).1
              clear hw9
              dsimp only
              go_wp2_with fail
              refine hK.out _ _ (xa9) (fun hHeldv5 => ?_)
              clear hK K hHeldv2
              try simp only [Act.put, List.setIfInBounds_toArray, List.set_cons_zero, List.set_cons_succ]
              refine wpAnyH_take (i := 6) (oi := { dst := some 202, op := Op.binOp BinOp.xor 59 (Operand.tmp 198) (Operand.tmp 201) 59, type := 59, pos := "ref.go:60", after := #[{ on := 2, ground := Ground.data }, { on := 5, ground := Ground.data }], guard := none }) (v := ?vv6) rfl (by kernel_rfl) (by kernel_rfl) (by kernel_rfl) (fun _ _ _ h => HP.out _ _ _ _ _ h) (Or.inl ⟨by rfl, ?yv6⟩) (by assumption) ?rv6
              case yv6 => (intro w' hSw; (try dsimp only at hSw); go_simp; try with_reducible rfl)
              try simp only [Act.put, List.setIfInBounds_toArray, List.set_cons_zero, List.set_cons_succ]
              refine wpAnyH_ready (rs := [9]) (by kernel_rfl) (by simp) ?_
              refine AllReadyH.cons (o := { dst := some 205, op := Op.call { callee := Callee.value (Operand.func 36), args := #[Operand.tmp 204, Operand.const (Value.int IntKind.i64 22)], argTypes := #[59, 3] }, type := 59, pos := "ref.go:60", after := #[{ on := 8, ground := Ground.data }, { on := 5, ground := Ground.chain }], guard := none }) rfl (fun K hK => ?_) AllReadyH.nil
              go_simp
              go_at_call 36
              refine (D6.out _).mono ?_
              rintro e w10 ⟨rfl, k10, hw10⟩
              have T10 : Hid (R6 w w10 V X ⟨ra, rb, rc, rd, re, rf, rg, rh⟩ ww) := Lib.hid (by rw [hw10]; exact (T9.out.drewN k10))
              have xa10 : w10.cell? ⟨V, 0, none⟩ = some (.int .u32 (ra : Int)) := (CV.out _ T10.out).1
              clear hw10
              dsimp only
              go_wp2_with fail
              refine hK.out _ _ (xa10) (fun hHeldv9 => ?_)
              clear hK K hHeldv5
              try simp only [Act.put, List.setIfInBounds_toArray, List.set_cons_zero, List.set_cons_succ]
              refine wpAnyH_take (i := 10) (oi := { dst := some 206, op := Op.binOp BinOp.xor 59 (Operand.tmp 202) (Operand.tmp 205) 59, type := 59, pos := "ref.go:60", after := #[{ on := 6, ground := Ground.data }, { on := 9, ground := Ground.data }], guard := none }) (v := ?vv10) rfl (by kernel_rfl) (by kernel_rfl) (by kernel_rfl) (fun _ _ _ h => HP.out _ _ _ _ _ h) (Or.inl ⟨by rfl, ?yv10⟩) (by assumption) ?rv10
              case yv10 => (intro w' hSw; (try dsimp only at hSw); go_simp; try with_reducible rfl)
              try simp only [Act.put, List.setIfInBounds_toArray, List.set_cons_zero, List.set_cons_succ]
              refine wpAnyH_take (i := 11) (oi := { dst := some 20, op := Op.assign (Operand.tmp 206), type := 59, pos := "ref.go:60", after := #[{ on := 10, ground := Ground.data }, { on := 9, ground := Ground.chain }, { on := 0, ground := Ground.phase }, { on := 1, ground := Ground.phase }, { on := 2, ground := Ground.phase }, { on := 3, ground := Ground.phase }, { on := 4, ground := Ground.phase }, { on := 5, ground := Ground.phase }, { on := 6, ground := Ground.phase }, { on := 7, ground := Ground.phase }, { on := 8, ground := Ground.phase }, { on := 9, ground := Ground.phase }, { on := 10, ground := Ground.phase }], guard := none }) (v := ?vv11) rfl (by kernel_rfl) (by kernel_rfl) (by kernel_rfl) (fun _ _ _ h => HP.out _ _ _ _ _ h) (Or.inl ⟨by rfl, ?yv11⟩) (by assumption) ?rv11
              case yv11 => (intro w' hSw; (try dsimp only at hSw); go_simp; try with_reducible rfl)
              try simp only [Act.put, List.setIfInBounds_toArray, List.set_cons_zero, List.set_cons_succ]
              refine wpAnyH_done (by kernel_rfl) ?_ _
              clear x0 xa8 xa9
              obtain ⟨v0, v1, v2, v3, v4, v5, v6, v7⟩ := CV.out _ T10.out
              have f0 := T10.out.v.frozen 0
              have f1 := T10.out.v.frozen 1
              have f2 := T10.out.v.frozen 2
              have f3 := T10.out.v.frozen 3
              have f4 := T10.out.v.frozen 4
              have f5 := T10.out.v.frozen 5
              have f6 := T10.out.v.frozen 6
              have f7 := T10.out.v.frozen 7
              go_wp2_with fail
              go_roundw
              case rel =>
                have hVX : X ≤ V := Nat.le_of_lt HXV.out
                have h1 := put8_blk (x0 := .int .u32 (q1 : Int)) (x1 := .int .u32 (ra : Int)) (x2 := .int .u32 (rb : Int)) (x3 := .int .u32 (rc : Int)) (x4 := .int .u32 (q2 : Int)) (x5 := .int .u32 (re : Int)) (x6 := .int .u32 (rf : Int)) (x7 := .int .u32 (rg : Int)) T10.out.v
                have h2 := put8_far (V := V) (x0 := .int .u32 (q1 : Int)) (x1 := .int .u32 (ra : Int)) (x2 := .int .u32 (rb : Int)) (x3 := .int .u32 (rc : Int)) (x4 := .int .u32 (q2 : Int)) (x5 := .int .u32 (re : Int)) (x6 := .int .u32 (rf : Int)) (x7 := .int .u32 (rg : Int)) T10.out.x (by have := HXV.out; omega)
                have h3 := put8_below (x0 := .int .u32 (q1 : Int)) (x1 := .int .u32 (ra : Int)) (x2 := .int .u32 (rb : Int)) (x3 := .int .u32 (rc : Int)) (x4 := .int .u32 (q2 : Int)) (x5 := .int .u32 (re : Int)) (x6 := .int .u32 (rf : Int)) (x7 := .int .u32 (rg : Int)) T10.out.bel hVX
                exact ⟨i + 1, by go_num, HLT.out, Lib.hid ⟨by rw [HRN4.out]; exact h1, h2, h3⟩⟩
              case measure => have := HLT.out; simp [intOf]; omega
            · obtain rfl : i = 64 := by omega
              rw [show ((64 : Nat) : Int) = 64 from rfl]
              have hHr : Blk wr H 60 s.cells := (hT.out.bel.block H HHX.out.1).trans HH.out
              have HT : Hid (Touch w wr H none) := Lib.hid (Touch.of_below (by have h := hT.out.bel; rw [HXX.out] at h; exact h))
              have HHV : Hid (H < V) := Lib.hid (by have h1 := HXV.out; have h2 := HHX.out.1; omega)
              have HE : Hid (blockF s kw m = plus8 s (rounds s kw ww 64)) := Lib.hid (by rw [HWE.out]; rfl)
              have hb := hT.out.v
              obtain ⟨r, hr⟩ : ∃ r, r = rounds s kw ww 64 := ⟨_, rfl⟩
              rw [← hr] at hb HE
              have hb := Lib.hid hb
              clear hr hT hi hlt
              rw [← mix_none (plus8 s r) s] at hHr
              have hHr := Lib.hid hHr
              go_wp2_with fail
              go_loopw [22] (fun s22 wr => ∃ i : Nat, s22 = .int .i64 i ∧ i ≤ 8 ∧ Hid (Blk wr H 60 (arr 8 (mix (plus8 s r) s i))) ∧ Hid (Blk wr V 60 r.cells) ∧ Hid (Touch w wr H none)) (fun s22 _ => 8 - (intOf s22).toNat)
              case atStart => exact ⟨0, rfl, by omega, hHr, hb, HT⟩
              case round =>
                clear HT hHr hb
                obtain ⟨i, rfl, hi, hh, hv, hT⟩ := hrel
                have i0 : (0 : Int) ≤ (i : Int) := Int.natCast_nonneg _
                by_cases hlt : i < 8
                · have i1 : (i : Int) < 8 := by omega
                  have x0 : wr.cell? ⟨H, i, none⟩ = some (.int .u32 (at0 s.list i : Int)) := by rw [hh.out.cell, mix_at _ _ _ hlt]
                  have x1 : wr.cell? ⟨V, i, none⟩ = some (.int .u32 (at0 r.list i : Int)) := by rw [hv.out.cell, cells_at _ _ hlt]
                  have HMS := Lib.hid (mix_set (plus8 s r) s i hlt)
                  have hpl := plus_at s r i hlt
                  have HF := hh.out.frozen i
                  have HF2 : wr.drew.frozen? ⟨H, i, none⟩ = false := HF
                  generalize at0 s.list i = a at *
                  generalize at0 r.list i = b at *
                  generalize at0 (plus8 s r).list i = z at *
                  have y1 : IntKind.u32.wrap ((a : Int) + (b : Int)) = (z : Int) := by rw [u32_add, hpl]
                  have x0' : wr.drew.cell? ⟨H, i, none⟩ = some (.int .u32 (a : Int)) := x0
                  have x1' : wr.drew.cell? ⟨V, i, none⟩ = some (.int .u32 (b : Int)) := x1
                  have HLT := Lib.hid hlt
                  clear hpl hlt hi
                  go_upto_region 39 with fail
                  go_still_tail 9, (by kernel_rfl)
                  change wpList _ _ _ _ _ wr.drew
                  have HH2 := Lib.hid ((hh.out.set_ i (.int .u32 (z : Int))))
                  have HTT := Lib.hid (hT.out.drew.set_ i (.int .u32 (z : Int)))
                  have HVV : Hid (Blk (wr.setCell ⟨H, i, none⟩ (.int .u32 (z : Int))) V 60 r.cells) := Lib.hid (hv.out.far (p := ⟨H, i, none⟩) (by have := HHV.out; show V ≠ H; omega) _)
                  go_wp2_with fail
                  go_roundw
                  case rel =>
                    refine ⟨i + 1, by go_num, HLT.out, Lib.hid ?_, Lib.hid ?_, Lib.hid ?_⟩
                    · rw [← HMS.out]; exact Blk.of_heap HH2.out rfl
                    · exact Blk.of_heap HVV.out rfl
                    · exact HTT.out
                  case measure => have := HLT.out; simp [intOf]; omega
                · obtain rfl : i = 8 := by omega
                  have HFIN : Hid (Blk wr H 60 (blockF s kw m).cells) := Lib.hid (by rw [HE.out, ← mix_all (plus8 s r) s]; exact hh.out)
                  clear hh hv
                  go_wp2_with fail
                  exact HQ.out _ _ _ _ _ _ _ _ _ _ _ _ _ _ _ _ _ _ _ _ _ _ _ _ _ _ _ _ _ _ _ _ _ _ _ _ _ _ _ _ _ _ _ _ _ _ _ _ _ _ _ _ _ _ _ _ _ _ _ _ _ _ _ _ _ _ _ _ _ _ _ _ _ _ _ _ _ _ _ _ _ _ _ _ _ _ _ _ _ _ _ _ _ _ _ _ _ _ _ _ _ _ _ _ _ _ _ _ _ _ _ _ _ _ _ _ _ _ _ _ _ _ _ _ _ _ _ _ _ _ _ _ _ _ _ _ _ _ _ _ _ _ _ _ _ _ _ _ _ _ _ _ _ _ _ _ _ _ _ _ _ _ _ _ _ _ _ _ _ _ _ _ _ _ _ _ _ _ _ _ _ _ _ _ _ _ _ _ _ _ _ _ _ _ _ _ _ _ _ _ _ _ _ _ _ _ _ _ _ _ _ _ HFIN.out hT.out
end Go.Proofs.Ytpkikibcfkdodaa
