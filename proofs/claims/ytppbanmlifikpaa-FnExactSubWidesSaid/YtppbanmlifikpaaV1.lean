/-
  What the symbolic executor asks of these functions, written out by a program of mine (wip/tools), and that it asks just this.
-/
import Derived.Test.YtppbanmlifikpaaSxR
import Derived.Test.YtppbanmlifikpaaChecked
import Derived.KernelRfl
namespace Go.Proofs.Ytppbanmlifikpaa.Sx
open Go Go.RowKit

def s6 : Sig := ⟨[.val true [.b, .i .u32, .i .u32, .i .u32, .i .u32, .i .u32, .i .u32]], [(false, [.b])], true⟩
def s7 : Sig := ⟨[.val false [.i .i64]], [(false, [.b])], true⟩
def s12 : Sig := ⟨[.val true [.b, .i .u32, .i .u32, .i .u32, .i .u32, .i .u32, .i .u32]], [(false, [.b])], true⟩
def s85 : Sig := ⟨[.val true [.i .u32, .i .u32, .i .u32, .i .u32, .i .u32, .i .u32]], [(true, [.i .u32, .i .u32, .i .u32, .i .u32, .i .u32, .i .u32])], true⟩
def s47 : Sig := ⟨[.val true [.b, .i .u32, .i .u32, .i .u32, .i .u32, .i .u32, .i .u32]], [(true, [.b, .i .u32, .i .u32, .i .u32, .i .u32, .i .u32, .i .u32])], true⟩
def s49 : Sig := ⟨[.val true [.b, .i .u32, .i .u32, .i .u32, .i .u32, .i .u32, .i .u32], .val true [.b, .i .u32, .i .u32, .i .u32, .i .u32, .i .u32, .i .u32]], [(false, [.b])], true⟩
def s87 : Sig := ⟨[.val true [.i .u32, .i .u32, .i .u32, .i .u32, .i .u32, .i .u32], .val true [.i .u32, .i .u32, .i .u32, .i .u32, .i .u32, .i .u32]], [(false, [.b])], true⟩
def s46 : Sig := ⟨[.val true [.b, .i .u32, .i .u32, .i .u32, .i .u32, .i .u32, .i .u32]], [(false, [.b])], true⟩
def s68 : Sig := ⟨[.ptr [.b, .i .u32, .i .u32, .i .u32, .i .u32, .i .u32, .i .u32]], [(false, [.b])], true⟩
def s48 : Sig := ⟨[.val false [.i .i64]], [(true, [.b, .i .u32, .i .u32, .i .u32, .i .u32, .i .u32, .i .u32])], true⟩
def s86 : Sig := ⟨[.val false [.i .i64]], [(true, [.b, .i .u32, .i .u32, .i .u32, .i .u32, .i .u32, .i .u32])], true⟩
def s72 : Sig := ⟨[.val false [.b], .val true [.i .u32, .i .u32, .i .u32, .i .u32, .i .u32, .i .u32]], [(true, [.b, .i .u32, .i .u32, .i .u32, .i .u32, .i .u32, .i .u32])], true⟩
def s101 : Sig := ⟨[.ptr [.i .u32, .i .u32, .i .u32, .i .u32, .i .u32, .i .u32]], [(false, [.b])], true⟩
def s53 : Sig := ⟨[.val true [.b, .i .u32, .i .u32, .i .u32, .i .u32, .i .u32, .i .u32]], [(true, [.b, .i .u32, .i .u32, .i .u32, .i .u32, .i .u32, .i .u32]), (false, [.i .i64])], true⟩
def s90 : Sig := ⟨[.val true [.b, .i .u32, .i .u32, .i .u32, .i .u32, .i .u32, .i .u32]], [(true, [.b, .i .u32, .i .u32, .i .u32, .i .u32, .i .u32, .i .u32])], true⟩
def s21 : Sig := ⟨[.val true [.b, .i .u32, .i .u32, .i .u32, .i .u32, .i .u32, .i .u32]], [(false, [.b])], true⟩
def s33 : Sig := ⟨[.val false [.i .i64]], [(true, [.b, .i .u32, .i .u32, .i .u32, .i .u32, .i .u32, .i .u32])], true⟩
def s61 : Sig := ⟨[.val false [.b], .val true [.i .u32, .i .u32, .i .u32, .i .u32, .i .u32, .i .u32]], [(true, [.b, .i .u32, .i .u32, .i .u32, .i .u32, .i .u32, .i .u32])], true⟩
def s63 : Sig := ⟨[.val true [.i .u32, .i .u32, .i .u32, .i .u32, .i .u32, .i .u32]], [(false, [.b])], true⟩
def s25 : Sig := ⟨[.val true [.b, .i .u32, .i .u32, .i .u32, .i .u32, .i .u32, .i .u32]], [(true, [.b, .i .u32, .i .u32, .i .u32, .i .u32, .i .u32, .i .u32]), (false, [.i .i64])], true⟩
def s66 : Sig := ⟨[.val true [.i .u32, .i .u32, .i .u32, .i .u32, .i .u32, .i .u32], .val true [.i .u32, .i .u32, .i .u32, .i .u32, .i .u32, .i .u32]], [(false, [.i .i64])], true⟩
def s95 : Sig := ⟨[.ptr [.i .u32, .i .u32, .i .u32, .i .u32, .i .u32, .i .u32], .ptr [.i .u32, .i .u32, .i .u32, .i .u32, .i .u32, .i .u32]], [(false, [.i .i64])], true⟩
def s79 : Sig := ⟨[.ptr [.b, .i .u32, .i .u32, .i .u32, .i .u32, .i .u32, .i .u32], .ptr [.b, .i .u32, .i .u32, .i .u32, .i .u32, .i .u32, .i .u32]], [(false, [.i .i64])], true⟩
def s37 : Sig := ⟨[.val true [.b, .i .u32, .i .u32, .i .u32, .i .u32, .i .u32, .i .u32], .val true [.b, .i .u32, .i .u32, .i .u32, .i .u32, .i .u32, .i .u32]], [(false, [.i .i64]), (false, [.i .i64])], true⟩
def s23 : Sig := ⟨[.val true [.b, .i .u32, .i .u32, .i .u32, .i .u32, .i .u32, .i .u32], .val true [.b, .i .u32, .i .u32, .i .u32, .i .u32, .i .u32, .i .u32]], [(false, [.i .i64]), (false, [.i .i64])], true⟩
def s88 : Sig := ⟨[.ptr [.b, .i .u32, .i .u32, .i .u32, .i .u32, .i .u32, .i .u32]], [(false, [.i .i64]), (false, [.b])], true⟩
def s50 : Sig := ⟨[.val true [.b, .i .u32, .i .u32, .i .u32, .i .u32, .i .u32, .i .u32]], [(false, [.i .i64]), (false, [.i .i64])], true⟩
def s32 : Sig := ⟨[.val true [.b, .i .u32, .i .u32, .i .u32, .i .u32, .i .u32, .i .u32]], [(false, [.i .i64]), (false, [.i .i64])], true⟩
def s11 : Sig := ⟨[.val true [.b, .i .u32, .i .u32, .i .u32, .i .u32, .i .u32, .i .u32], .val true [.b, .i .u32, .i .u32, .i .u32, .i .u32, .i .u32, .i .u32]], [(false, [.b])], true⟩
def s8 : Sig := ⟨[.val true [.b, .i .u32, .i .u32, .i .u32, .i .u32, .i .u32, .i .u32]], [(false, [.b])], true⟩
def s60 : Sig := ⟨[.val true [.i .u32, .i .u32, .i .u32, .i .u32, .i .u32, .i .u32], .val true [.i .u32, .i .u32, .i .u32, .i .u32, .i .u32, .i .u32]], [(true, [.i .u32, .i .u32, .i .u32, .i .u32, .i .u32, .i .u32]), (false, [.b])], true⟩
def s67 : Sig := ⟨[.val true [.i .u32, .i .u32, .i .u32, .i .u32, .i .u32, .i .u32], .val true [.i .u32, .i .u32, .i .u32, .i .u32, .i .u32, .i .u32]], [(true, [.i .u32, .i .u32, .i .u32, .i .u32, .i .u32, .i .u32])], true⟩
def s94 : Sig := ⟨[.ptr [.i .u32, .i .u32, .i .u32, .i .u32, .i .u32, .i .u32], .ptr [.i .u32, .i .u32, .i .u32, .i .u32, .i .u32, .i .u32]], [(true, [.i .u32, .i .u32, .i .u32, .i .u32, .i .u32, .i .u32]), (false, [.b])], true⟩
def s96 : Sig := ⟨[.ptr [.i .u32, .i .u32, .i .u32, .i .u32, .i .u32, .i .u32], .ptr [.i .u32, .i .u32, .i .u32, .i .u32, .i .u32, .i .u32]], [(true, [.i .u32, .i .u32, .i .u32, .i .u32, .i .u32, .i .u32])], true⟩
def s69 : Sig := ⟨[.val true [.b, .i .u32, .i .u32, .i .u32, .i .u32, .i .u32, .i .u32], .val true [.b, .i .u32, .i .u32, .i .u32, .i .u32, .i .u32, .i .u32]], [(true, [.b, .i .u32, .i .u32, .i .u32, .i .u32, .i .u32, .i .u32]), (false, [.i .i64])], true⟩
def s20 : Sig := ⟨[.val true [.b, .i .u32, .i .u32, .i .u32, .i .u32, .i .u32, .i .u32], .val true [.b, .i .u32, .i .u32, .i .u32, .i .u32, .i .u32, .i .u32]], [(true, [.b, .i .u32, .i .u32, .i .u32, .i .u32, .i .u32, .i .u32]), (false, [.i .i64])], true⟩
def s19 : Sig := ⟨[.val true [.b, .i .u32, .i .u32, .i .u32, .i .u32, .i .u32, .i .u32], .val true [.b, .i .u32, .i .u32, .i .u32, .i .u32, .i .u32, .i .u32]], [(true, [.b, .i .u32, .i .u32, .i .u32, .i .u32, .i .u32, .i .u32]), (false, [.i .i64])], true⟩
def s65 : Sig := ⟨[.val false [.b], .val true [.i .u32, .i .u32, .i .u32, .i .u32, .i .u32, .i .u32], .val false [.b]], [(true, [.b, .i .u32, .i .u32, .i .u32, .i .u32, .i .u32, .i .u32]), (false, [.i .i64])], true⟩
def s13 : Sig := ⟨[.val true [.b, .i .u32, .i .u32, .i .u32, .i .u32, .i .u32, .i .u32], .val true [.b, .i .u32, .i .u32, .i .u32, .i .u32, .i .u32, .i .u32]], [(false, [.b])], true⟩
def s54 : Sig := ⟨[.val true [.b, .i .u32, .i .u32, .i .u32, .i .u32, .i .u32, .i .u32], .val true [.b, .i .u32, .i .u32, .i .u32, .i .u32, .i .u32, .i .u32]], [(true, [.b, .i .u32, .i .u32, .i .u32, .i .u32, .i .u32, .i .u32]), (false, [.i .i64])], true⟩
def s22 : Sig := ⟨[.val true [.b, .i .u32, .i .u32, .i .u32, .i .u32, .i .u32, .i .u32], .val true [.b, .i .u32, .i .u32, .i .u32, .i .u32, .i .u32, .i .u32]], [(true, [.b, .i .u32, .i .u32, .i .u32, .i .u32, .i .u32, .i .u32]), (false, [.i .i64])], true⟩
def s14 : Sig := ⟨[.val true [.b, .i .u32, .i .u32, .i .u32, .i .u32, .i .u32, .i .u32], .val true [.b, .i .u32, .i .u32, .i .u32, .i .u32, .i .u32, .i .u32]], [(false, [.b])], true⟩
def sigsV1 : List (Nat × Sig) := [(6, s6), (7, s7), (12, s12), (85, s85), (47, s47), (49, s49), (87, s87), (46, s46), (68, s68), (48, s48), (86, s86), (72, s72), (101, s101), (53, s53), (90, s90), (21, s21), (33, s33), (61, s61), (63, s63), (25, s25), (66, s66), (95, s95), (79, s79), (37, s37), (23, s23), (88, s88), (50, s50), (32, s32), (11, s11), (8, s8), (60, s60), (67, s67), (94, s94), (96, s96), (69, s69), (20, s20), (19, s19), (65, s65), (13, s13), (54, s54), (22, s22), (14, s14)]
/-- loop.example/g01242/laws.FnExactValidWide -/
noncomputable def c6 : Cfg := ⟨Try.prog, [(47, s47), (46, s46), (21, s21)]⟩
def t6 : VC :=
 (.call 47 (.e (.var 0) (.e (.var 1) (.e (.var 2) (.e (.var 3) (.e (.var 4) (.e (.var 5) (.e (.var 6) .nil))))))) 7
 (.call 46 (.e (.var 7) (.e (.var 8) (.e (.var 9) (.e (.var 10) (.e (.var 11) (.e (.var 12) (.e (.var 13) .nil))))))) 1
 (.call 47 (.e (.var 0) (.e (.var 1) (.e (.var 2) (.e (.var 3) (.e (.var 4) (.e (.var 5) (.e (.var 6) .nil))))))) 7
 (.call 21 (.e (.var 15) (.e (.var 16) (.e (.var 17) (.e (.var 18) (.e (.var 19) (.e (.var 20) (.e (.var 21) .nil))))))) 1
 (.ite (.not (.beq (.eq (.var 22) (.lit 1)) (.eq (.var 14) (.lit 1))))
  (.fin (.e (.lit 0) .nil))
  (.fin (.e (.lit 1) .nil)))))))
theorem v6 : vcOf ⟨c6, []⟩ 250 Try.f6 s6 = t6 := by kernel_rfl

/-- loop.example/g01242/laws.FnExactWideOf -/
noncomputable def c7 : Cfg := ⟨Try.prog, [(48, s48), (33, s33), (49, s49)]⟩
def t7 : VC :=
 (.call 48 (.e (.var 0) .nil) 7
 (.call 33 (.e (.var 0) .nil) 7
 (.call 49 (.e (.var 8) (.e (.var 9) (.e (.var 10) (.e (.var 11) (.e (.var 12) (.e (.var 13) (.e (.var 14) (.e (.var 1) (.e (.var 2) (.e (.var 3) (.e (.var 4) (.e (.var 5) (.e (.var 6) (.e (.var 7) .nil)))))))))))))) 1
 (.ite (.not (.eq (.var 15) (.lit 1)))
  (.fin (.e (.lit 0) .nil))
  (.fin (.e (.lit 1) .nil))))))
theorem v7 : vcOf ⟨c7, []⟩ 250 Try.f7 s7 = t7 := by kernel_rfl

/-- loop.example/g01242/laws.FnExactNegWide -/
noncomputable def c12 : Cfg := ⟨Try.prog, [(47, s47), (53, s53), (25, s25), (49, s49)]⟩
def t12 : VC :=
 (.call 47 (.e (.var 0) (.e (.var 1) (.e (.var 2) (.e (.var 3) (.e (.var 4) (.e (.var 5) (.e (.var 6) .nil))))))) 7
 (.call 53 (.e (.var 7) (.e (.var 8) (.e (.var 9) (.e (.var 10) (.e (.var 11) (.e (.var 12) (.e (.var 13) .nil))))))) 8
 (.call 47 (.e (.var 0) (.e (.var 1) (.e (.var 2) (.e (.var 3) (.e (.var 4) (.e (.var 5) (.e (.var 6) .nil))))))) 7
 (.call 25 (.e (.var 22) (.e (.var 23) (.e (.var 24) (.e (.var 25) (.e (.var 26) (.e (.var 27) (.e (.var 28) .nil))))))) 8
 (.call 49 (.e (.var 29) (.e (.var 30) (.e (.var 31) (.e (.var 32) (.e (.var 33) (.e (.var 34) (.e (.var 35) (.e (.var 14) (.e (.var 15) (.e (.var 16) (.e (.var 17) (.e (.var 18) (.e (.var 19) (.e (.var 20) .nil)))))))))))))) 1
 (.ite (.eq (.var 37) (.lit 1))
  (.ite (.not (.eq (.var 36) (.var 21)))
   (.fin (.e (.lit 0) .nil))
   (.fin (.e (.lit 1) .nil)))
  (.fin (.e (.lit 0) .nil))))))))
theorem v12 : vcOf ⟨c12, []⟩ 250 Try.f12 s12 = t12 := by kernel_rfl

/-- loop.example/g01242/laws.toUint32A6 -/
noncomputable def c85 : Cfg := ⟨Try.prog, []⟩
def t85 : VC :=
 (.fin (.e (.var 0) (.e (.var 1) (.e (.var 2) (.e (.var 3) (.e (.var 4) (.e (.var 5) .nil)))))))
theorem v85 : vcOf ⟨c85, []⟩ 250 Try.f85 s85 = t85 := by kernel_rfl

/-- loop.example/g01242/laws.toWide -/
noncomputable def c47 : Cfg := ⟨Try.prog, [(85, s85)]⟩
def t47 : VC :=
 (.call 85 (.e (.var 1) (.e (.var 2) (.e (.var 3) (.e (.var 4) (.e (.var 5) (.e (.var 6) .nil)))))) 6
 (.fin (.e (.var 0) (.e (.var 7) (.e (.var 8) (.e (.var 9) (.e (.var 10) (.e (.var 11) (.e (.var 12) .nil)))))))))
theorem v47 : vcOf ⟨c47, []⟩ 250 Try.f47 s47 = t47 := by kernel_rfl

/-- loop.example/g01242/laws.eqWide -/
noncomputable def c49 : Cfg := ⟨Try.prog, [(87, s87)]⟩
def t49 : VC :=
 (.ite (.not (.beq (.eq (.var 0) (.lit 1)) (.eq (.var 7) (.lit 1))))
  (.fin (.e (.lit 0) .nil))
  (.call 87 (.e (.var 1) (.e (.var 2) (.e (.var 3) (.e (.var 4) (.e (.var 5) (.e (.var 6) (.e (.var 8) (.e (.var 9) (.e (.var 10) (.e (.var 11) (.e (.var 12) (.e (.var 13) .nil)))))))))))) 1
  (.ite (.not (.eq (.var 14) (.lit 1)))
   (.fin (.e (.lit 0) .nil))
   (.fin (.e (.lit 1) .nil)))))
theorem v49 : vcOf ⟨c49, []⟩ 250 Try.f49 s49 = t49 := by kernel_rfl

/-- loop.example/g01242/laws.eqUint32A6 -/
noncomputable def c87 : Cfg := ⟨Try.prog, []⟩
def t87 : VC :=
 (.ite (.not (.eq (.var 0) (.var 6)))
  (.fin (.e (.lit 0) .nil))
  (.ite (.not (.eq (.var 1) (.var 7)))
   (.fin (.e (.lit 0) .nil))
   (.ite (.not (.eq (.var 2) (.var 8)))
    (.fin (.e (.lit 0) .nil))
    (.ite (.not (.eq (.var 3) (.var 9)))
     (.fin (.e (.lit 0) .nil))
     (.ite (.not (.eq (.var 4) (.var 10)))
      (.fin (.e (.lit 0) .nil))
      (.ite (.not (.eq (.var 5) (.var 11)))
       (.fin (.e (.lit 0) .nil))
       (.fin (.e (.lit 1) .nil))))))))
theorem v87 : vcOf ⟨c87, []⟩ 250 Try.f87 s87 = t87 := by kernel_rfl

/-- loop.example/g01242/spec.ValidWide -/
noncomputable def c46 : Cfg := ⟨Try.prog, [(68, s68)]⟩
def t46 : VC :=
 (.call 68 (.e (.var 0) (.e (.var 1) (.e (.var 2) (.e (.var 3) (.e (.var 4) (.e (.var 5) (.e (.var 6) .nil))))))) 1
 (.fin (.e (.var 7) .nil)))
theorem v46 : vcOf ⟨c46, []⟩ 250 Try.f46 s46 = t46 := by kernel_rfl

/-- loop.example/g01242/spec.l01Ok -/
noncomputable def c68 : Cfg := ⟨Try.prog, []⟩
def t68 : VC :=
 (.ite (.eq (.var 0) (.lit 1))
  (.bind (.ite (.not (.and (.eq (.var 1) (.lit 0)) (.and (.eq (.var 2) (.lit 0)) (.and (.eq (.var 3) (.lit 0)) (.and (.eq (.var 4) (.lit 0)) (.and (.eq (.var 5) (.lit 0)) (.eq (.var 6) (.lit 0)))))))) (.lit 1) (.lit 0))
  (.fin (.e (.var 7) .nil)))
  (.fin (.e (.lit 1) .nil)))
theorem v68 : vcOf ⟨c68, []⟩ 250 Try.f68 s68 = t68 := by kernel_rfl

/-- loop.example/g01242/spec.WideOf -/
noncomputable def c48 : Cfg := ⟨Try.prog, [(86, s86)]⟩
def t48 : VC :=
 (.call 86 (.e (.var 0) .nil) 7
 (.fin (.e (.var 1) (.e (.var 2) (.e (.var 3) (.e (.var 4) (.e (.var 5) (.e (.var 6) (.e (.var 7) .nil)))))))))
theorem v48 : vcOf ⟨c48, []⟩ 250 Try.f48 s48 = t48 := by kernel_rfl

/-- loop.example/g01242/spec.l01Of -/
noncomputable def c86 : Cfg := ⟨Try.prog, [(72, s72)]⟩
def t86 : VC :=
 (.bind (.wrap .u64 (.var 0))
 (.ite (.lt (.var 0) (.lit 0))
  (.bind (.wrap .u64 (.sub (.lit 0) (.var 1)))
  (.bind (.wrap .u32 (.var 2))
  (.bind (.div (.var 2) (.lit 4294967296))
  (.call 72 (.e (.lit 1) (.e (.var 3) (.e (.var 4) (.e (.lit 0) (.e (.lit 0) (.e (.lit 0) (.e (.lit 0) .nil))))))) 7
  (.fin (.e (.var 5) (.e (.var 6) (.e (.var 7) (.e (.var 8) (.e (.var 9) (.e (.var 10) (.e (.var 11) .nil))))))))))))
  (.bind (.wrap .u32 (.var 1))
  (.bind (.div (.var 1) (.lit 4294967296))
  (.call 72 (.e (.lit 0) (.e (.var 2) (.e (.var 3) (.e (.lit 0) (.e (.lit 0) (.e (.lit 0) (.e (.lit 0) .nil))))))) 7
  (.fin (.e (.var 4) (.e (.var 5) (.e (.var 6) (.e (.var 7) (.e (.var 8) (.e (.var 9) (.e (.var 10) .nil)))))))))))))
theorem v86 : vcOf ⟨c86, []⟩ 250 Try.f86 s86 = t86 := by kernel_rfl

/-- loop.example/g01242/spec.l01Made -/
noncomputable def c72 : Cfg := ⟨Try.prog, [(101, s101)]⟩
def t72 : VC :=
 (.ite (.eq (.var 0) (.lit 1))
  (.call 101 (.e (.var 1) (.e (.var 2) (.e (.var 3) (.e (.var 4) (.e (.var 5) (.e (.var 6) .nil)))))) 1
  (.fin (.e (.ite (.not (.eq (.var 7) (.lit 1))) (.lit 1) (.lit 0)) (.e (.var 1) (.e (.var 2) (.e (.var 3) (.e (.var 4) (.e (.var 5) (.e (.var 6) .nil)))))))))
  (.fin (.e (.lit 0) (.e (.var 1) (.e (.var 2) (.e (.var 3) (.e (.var 4) (.e (.var 5) (.e (.var 6) .nil)))))))))
theorem v72 : vcOf ⟨c72, []⟩ 250 Try.f72 s72 = t72 := by kernel_rfl

/-- loop.example/g01242/spec.l01Zero -/
noncomputable def c101 : Cfg := ⟨Try.prog, []⟩
def t101 : VC :=
 (.bind (.ite (.and (.eq (.var 0) (.lit 0)) (.and (.eq (.var 1) (.lit 0)) (.and (.eq (.var 2) (.lit 0)) (.and (.eq (.var 3) (.lit 0)) (.and (.eq (.var 4) (.lit 0)) (.eq (.var 5) (.lit 0))))))) (.lit 1) (.lit 0))
 (.fin (.e (.var 6) .nil)))
theorem v101 : vcOf ⟨c101, []⟩ 250 Try.f101 s101 = t101 := by kernel_rfl

/-- loop.example/g01242/spec.NegWide -/
noncomputable def c53 : Cfg := ⟨Try.prog, [(68, s68), (90, s90)]⟩
def t53 : VC :=
 (.call 68 (.e (.var 0) (.e (.var 1) (.e (.var 2) (.e (.var 3) (.e (.var 4) (.e (.var 5) (.e (.var 6) .nil))))))) 1
 (.ite (.not (.eq (.var 7) (.lit 1)))
  (.fin (.e (.lit 0) (.e (.lit 0) (.e (.lit 0) (.e (.lit 0) (.e (.lit 0) (.e (.lit 0) (.e (.lit 0) (.e (.lit 1) .nil)))))))))
  (.call 90 (.e (.var 0) (.e (.var 1) (.e (.var 2) (.e (.var 3) (.e (.var 4) (.e (.var 5) (.e (.var 6) .nil))))))) 7
  (.fin (.e (.var 8) (.e (.var 9) (.e (.var 10) (.e (.var 11) (.e (.var 12) (.e (.var 13) (.e (.var 14) (.e (.lit 0) .nil))))))))))))
theorem v53 : vcOf ⟨c53, []⟩ 250 Try.f53 s53 = t53 := by kernel_rfl

/-- loop.example/g01242/spec.l01Neg -/
noncomputable def c90 : Cfg := ⟨Try.prog, [(72, s72)]⟩
def t90 : VC :=
 (.call 72 (.e (.ite (.not (.eq (.var 0) (.lit 1))) (.lit 1) (.lit 0)) (.e (.var 1) (.e (.var 2) (.e (.var 3) (.e (.var 4) (.e (.var 5) (.e (.var 6) .nil))))))) 7
 (.fin (.e (.var 7) (.e (.var 8) (.e (.var 9) (.e (.var 10) (.e (.var 11) (.e (.var 12) (.e (.var 13) .nil)))))))))
theorem v90 : vcOf ⟨c90, []⟩ 250 Try.f90 s90 = t90 := by kernel_rfl

/-- loop.example/g01242/impl.ValidWide -/
noncomputable def c21 : Cfg := ⟨Try.prog, []⟩
def t21 : VC :=
 (.ite (.eq (.var 0) (.lit 1))
  (.bind (.ite (.not (.and (.eq (.var 1) (.lit 0)) (.and (.eq (.var 2) (.lit 0)) (.and (.eq (.var 3) (.lit 0)) (.and (.eq (.var 4) (.lit 0)) (.and (.eq (.var 5) (.lit 0)) (.eq (.var 6) (.lit 0)))))))) (.lit 1) (.lit 0))
  (.fin (.e (.var 7) .nil)))
  (.fin (.e (.lit 1) .nil)))
theorem v21 : vcOf ⟨c21, []⟩ 250 Try.f21 s21 = t21 := by kernel_rfl

/-- loop.example/g01242/impl.WideOf -/
noncomputable def c33 : Cfg := ⟨Try.prog, [(61, s61)]⟩
def t33 : VC :=
 (.bind (.wrap .u64 (.var 0))
 (.ite (.lt (.var 0) (.lit 0))
  (.bind (.wrap .u64 (.sub (.lit 0) (.var 1)))
  (.call 61 (.e (.lit 1) (.e (.wrap .u32 (.var 2)) (.e (.div (.var 2) (.lit 4294967296)) (.e (.lit 0) (.e (.lit 0) (.e (.lit 0) (.e (.lit 0) .nil))))))) 7
  (.fin (.e (.var 3) (.e (.var 4) (.e (.var 5) (.e (.var 6) (.e (.var 7) (.e (.var 8) (.e (.var 9) .nil))))))))))
  (.call 61 (.e (.lit 0) (.e (.wrap .u32 (.var 1)) (.e (.div (.var 1) (.lit 4294967296)) (.e (.lit 0) (.e (.lit 0) (.e (.lit 0) (.e (.lit 0) .nil))))))) 7
  (.fin (.e (.var 2) (.e (.var 3) (.e (.var 4) (.e (.var 5) (.e (.var 6) (.e (.var 7) (.e (.var 8) .nil)))))))))))
theorem v33 : vcOf ⟨c33, []⟩ 250 Try.f33 s33 = t33 := by kernel_rfl

/-- loop.example/g01242/impl.wideOfSize -/
noncomputable def c61 : Cfg := ⟨Try.prog, [(63, s63)]⟩
def t61 : VC :=
 (.ite (.eq (.var 0) (.lit 1))
  (.call 63 (.e (.var 1) (.e (.var 2) (.e (.var 3) (.e (.var 4) (.e (.var 5) (.e (.var 6) .nil)))))) 1
  (.fin (.e (.ite (.not (.eq (.var 7) (.lit 1))) (.lit 1) (.lit 0)) (.e (.var 1) (.e (.var 2) (.e (.var 3) (.e (.var 4) (.e (.var 5) (.e (.var 6) .nil)))))))))
  (.fin (.e (.lit 0) (.e (.var 1) (.e (.var 2) (.e (.var 3) (.e (.var 4) (.e (.var 5) (.e (.var 6) .nil)))))))))
theorem v61 : vcOf ⟨c61, []⟩ 250 Try.f61 s61 = t61 := by kernel_rfl

/-- (loop.example/g01242/impl.limbs).isZero -/
noncomputable def c63 : Cfg := ⟨Try.prog, []⟩
def t63 : VC :=
 (.bind (.ite (.and (.eq (.var 0) (.lit 0)) (.and (.eq (.var 1) (.lit 0)) (.and (.eq (.var 2) (.lit 0)) (.and (.eq (.var 3) (.lit 0)) (.and (.eq (.var 4) (.lit 0)) (.eq (.var 5) (.lit 0))))))) (.lit 1) (.lit 0))
 (.fin (.e (.var 6) .nil)))
theorem v63 : vcOf ⟨c63, []⟩ 250 Try.f63 s63 = t63 := by kernel_rfl

/-- loop.example/g01242/impl.NegWide -/
noncomputable def c25 : Cfg := ⟨Try.prog, [(21, s21), (61, s61)]⟩
def t25 : VC :=
 (.call 21 (.e (.var 0) (.e (.var 1) (.e (.var 2) (.e (.var 3) (.e (.var 4) (.e (.var 5) (.e (.var 6) .nil))))))) 1
 (.ite (.not (.eq (.var 7) (.lit 1)))
  (.fin (.e (.lit 0) (.e (.lit 0) (.e (.lit 0) (.e (.lit 0) (.e (.lit 0) (.e (.lit 0) (.e (.lit 0) (.e (.lit 1) .nil)))))))))
  (.call 61 (.e (.ite (.not (.eq (.var 0) (.lit 1))) (.lit 1) (.lit 0)) (.e (.var 1) (.e (.var 2) (.e (.var 3) (.e (.var 4) (.e (.var 5) (.e (.var 6) .nil))))))) 7
  (.fin (.e (.var 8) (.e (.var 9) (.e (.var 10) (.e (.var 11) (.e (.var 12) (.e (.var 13) (.e (.var 14) (.e (.lit 0) .nil))))))))))))
theorem v25 : vcOf ⟨c25, []⟩ 250 Try.f25 s25 = t25 := by kernel_rfl

/-- (loop.example/g01242/impl.limbs).compare -/
noncomputable def c66 : Cfg := ⟨Try.prog, []⟩
def t66 : VC :=
 (.ite (.and (.eq (.var 0) (.var 6)) (.and (.eq (.var 1) (.var 7)) (.and (.eq (.var 2) (.var 8)) (.and (.eq (.var 3) (.var 9)) (.and (.eq (.var 4) (.var 10)) (.eq (.var 5) (.var 11)))))))
  (.fin (.e (.lit 0) .nil))
  (.ite (.eq (.var 5) (.var 11))
   (.ite (.eq (.var 4) (.var 10))
    (.ite (.eq (.var 3) (.var 9))
     (.ite (.eq (.var 2) (.var 8))
      (.ite (.eq (.var 1) (.var 7))
       (.ite (.eq (.var 0) (.var 6))
        (.fail 16)
        (.ite (.lt (.var 0) (.var 6))
         (.fin (.e (.lit (-1)) .nil))
         (.fin (.e (.lit 1) .nil))))
       (.ite (.lt (.var 1) (.var 7))
        (.fin (.e (.lit (-1)) .nil))
        (.fin (.e (.lit 1) .nil))))
      (.ite (.lt (.var 2) (.var 8))
       (.fin (.e (.lit (-1)) .nil))
       (.fin (.e (.lit 1) .nil))))
     (.ite (.lt (.var 3) (.var 9))
      (.fin (.e (.lit (-1)) .nil))
      (.fin (.e (.lit 1) .nil))))
    (.ite (.lt (.var 4) (.var 10))
     (.fin (.e (.lit (-1)) .nil))
     (.fin (.e (.lit 1) .nil))))
   (.ite (.lt (.var 5) (.var 11))
    (.fin (.e (.lit (-1)) .nil))
    (.fin (.e (.lit 1) .nil)))))
theorem v66 : vcOf ⟨c66, []⟩ 250 Try.f66 s66 = t66 := by kernel_rfl

/-- loop.example/g01242/spec.l01Cmp -/
noncomputable def c95 : Cfg := ⟨Try.prog, []⟩
def t95 : VC :=
 (.ite (.lt (.var 5) (.var 11))
  (.fin (.e (.lit (-1)) .nil))
  (.ite (.lt (.var 11) (.var 5))
   (.fin (.e (.lit 1) .nil))
   (.ite (.lt (.var 4) (.var 10))
    (.fin (.e (.lit (-1)) .nil))
    (.ite (.lt (.var 10) (.var 4))
     (.fin (.e (.lit 1) .nil))
     (.ite (.lt (.var 3) (.var 9))
      (.fin (.e (.lit (-1)) .nil))
      (.ite (.lt (.var 9) (.var 3))
       (.fin (.e (.lit 1) .nil))
       (.ite (.lt (.var 2) (.var 8))
        (.fin (.e (.lit (-1)) .nil))
        (.ite (.lt (.var 8) (.var 2))
         (.fin (.e (.lit 1) .nil))
         (.ite (.lt (.var 1) (.var 7))
          (.fin (.e (.lit (-1)) .nil))
          (.ite (.lt (.var 7) (.var 1))
           (.fin (.e (.lit 1) .nil))
           (.ite (.lt (.var 0) (.var 6))
            (.fin (.e (.lit (-1)) .nil))
            (.ite (.lt (.var 6) (.var 0))
             (.fin (.e (.lit 1) .nil))
             (.fin (.e (.lit 0) .nil))))))))))))))
theorem v95 : vcOf ⟨c95, []⟩ 250 Try.f95 s95 = t95 := by kernel_rfl

/-- loop.example/g01242/spec.l01Compare -/
noncomputable def c79 : Cfg := ⟨Try.prog, [(95, s95)]⟩
def t79 : VC :=
 (.ite (.eq (.var 0) (.lit 1))
  (.ite (.not (.eq (.var 7) (.lit 1)))
   (.fin (.e (.lit (-1)) .nil))
   (.call 95 (.e (.var 8) (.e (.var 9) (.e (.var 10) (.e (.var 11) (.e (.var 12) (.e (.var 13) (.e (.var 1) (.e (.var 2) (.e (.var 3) (.e (.var 4) (.e (.var 5) (.e (.var 6) .nil)))))))))))) 1
   (.fin (.e (.var 14) .nil))))
  (.ite (.eq (.var 7) (.lit 1))
   (.fin (.e (.lit 1) .nil))
   (.call 95 (.e (.var 1) (.e (.var 2) (.e (.var 3) (.e (.var 4) (.e (.var 5) (.e (.var 6) (.e (.var 8) (.e (.var 9) (.e (.var 10) (.e (.var 11) (.e (.var 12) (.e (.var 13) .nil)))))))))))) 1
   (.fin (.e (.var 14) .nil)))))
theorem v79 : vcOf ⟨c79, []⟩ 250 Try.f79 s79 = t79 := by kernel_rfl

/-- loop.example/g01242/spec.CompareWides -/
noncomputable def c37 : Cfg := ⟨Try.prog, [(68, s68), (79, s79)]⟩
def t37 : VC :=
 (.call 68 (.e (.var 0) (.e (.var 1) (.e (.var 2) (.e (.var 3) (.e (.var 4) (.e (.var 5) (.e (.var 6) .nil))))))) 1
 (.ite (.eq (.var 14) (.lit 1))
  (.call 68 (.e (.var 7) (.e (.var 8) (.e (.var 9) (.e (.var 10) (.e (.var 11) (.e (.var 12) (.e (.var 13) .nil))))))) 1
  (.ite (.not (.eq (.var 15) (.lit 1)))
   (.fin (.e (.lit 0) (.e (.lit 1) .nil)))
   (.call 79 (.e (.var 0) (.e (.var 1) (.e (.var 2) (.e (.var 3) (.e (.var 4) (.e (.var 5) (.e (.var 6) (.e (.var 7) (.e (.var 8) (.e (.var 9) (.e (.var 10) (.e (.var 11) (.e (.var 12) (.e (.var 13) .nil)))))))))))))) 1
   (.fin (.e (.var 16) (.e (.lit 0) .nil))))))
  (.fin (.e (.lit 0) (.e (.lit 1) .nil)))))
theorem v37 : vcOf ⟨c37, []⟩ 250 Try.f37 s37 = t37 := by kernel_rfl

/-- loop.example/g01242/impl.CompareWides -/
noncomputable def c23 : Cfg := ⟨Try.prog, [(21, s21), (66, s66)]⟩
def t23 : VC :=
 (.call 21 (.e (.var 0) (.e (.var 1) (.e (.var 2) (.e (.var 3) (.e (.var 4) (.e (.var 5) (.e (.var 6) .nil))))))) 1
 (.ite (.eq (.var 14) (.lit 1))
  (.call 21 (.e (.var 7) (.e (.var 8) (.e (.var 9) (.e (.var 10) (.e (.var 11) (.e (.var 12) (.e (.var 13) .nil))))))) 1
  (.ite (.not (.eq (.var 15) (.lit 1)))
   (.fin (.e (.lit 0) (.e (.lit 1) .nil)))
   (.ite (.not (.beq (.eq (.var 0) (.lit 1)) (.eq (.var 7) (.lit 1))))
    (.ite (.eq (.var 0) (.lit 1))
     (.fin (.e (.lit (-1)) (.e (.lit 0) .nil)))
     (.fin (.e (.lit 1) (.e (.lit 0) .nil))))
    (.call 66 (.e (.var 1) (.e (.var 2) (.e (.var 3) (.e (.var 4) (.e (.var 5) (.e (.var 6) (.e (.var 8) (.e (.var 9) (.e (.var 10) (.e (.var 11) (.e (.var 12) (.e (.var 13) .nil)))))))))))) 1
    (.ite (.eq (.var 0) (.lit 1))
     (.bind (.wrap .i64 (.sub (.lit 0) (.var 16)))
     (.fin (.e (.var 17) (.e (.lit 0) .nil))))
     (.fin (.e (.var 16) (.e (.lit 0) .nil))))))))
  (.fin (.e (.lit 0) (.e (.lit 1) .nil)))))
theorem v23 : vcOf ⟨c23, []⟩ 250 Try.f23 s23 = t23 := by kernel_rfl

/-- loop.example/g01242/spec.l01Narrow -/
noncomputable def c88 : Cfg := ⟨Try.prog, []⟩
def t88 : VC :=
 (.ite (.not (.eq (.var 3) (.lit 0)))
  (.fin (.e (.lit 0) (.e (.lit 0) .nil)))
  (.ite (.not (.eq (.var 4) (.lit 0)))
   (.fin (.e (.lit 0) (.e (.lit 0) .nil)))
   (.ite (.not (.eq (.var 5) (.lit 0)))
    (.fin (.e (.lit 0) (.e (.lit 0) .nil)))
    (.ite (.not (.eq (.var 6) (.lit 0)))
     (.fin (.e (.lit 0) (.e (.lit 0) .nil)))
     (.bind (.add (.mul (.var 2) (.lit 4294967296)) (.var 1))
     (.ite (.eq (.var 0) (.lit 1))
      (.bind (.wrap .i64 (.wrap .u64 (.sub (.lit 0) (.var 7))))
      (.fin (.e (.var 8) (.e (.ite (.le (.var 7) (.lit 9223372036854775808)) (.lit 1) (.lit 0)) .nil))))
      (.bind (.wrap .i64 (.var 7))
      (.fin (.e (.var 8) (.e (.ite (.lt (.var 7) (.lit 9223372036854775808)) (.lit 1) (.lit 0)) .nil))))))))))
theorem v88 : vcOf ⟨c88, []⟩ 250 Try.f88 s88 = t88 := by kernel_rfl

/-- loop.example/g01242/spec.NarrowOf -/
noncomputable def c50 : Cfg := ⟨Try.prog, [(68, s68), (88, s88)]⟩
def t50 : VC :=
 (.call 68 (.e (.var 0) (.e (.var 1) (.e (.var 2) (.e (.var 3) (.e (.var 4) (.e (.var 5) (.e (.var 6) .nil))))))) 1
 (.ite (.not (.eq (.var 7) (.lit 1)))
  (.fin (.e (.lit 0) (.e (.lit 1) .nil)))
  (.call 88 (.e (.var 0) (.e (.var 1) (.e (.var 2) (.e (.var 3) (.e (.var 4) (.e (.var 5) (.e (.var 6) .nil))))))) 2
  (.ite (.not (.eq (.var 9) (.lit 1)))
   (.fin (.e (.lit 0) (.e (.lit 2) .nil)))
   (.fin (.e (.var 8) (.e (.lit 0) .nil)))))))
theorem v50 : vcOf ⟨c50, []⟩ 250 Try.f50 s50 = t50 := by kernel_rfl

/-- loop.example/g01242/impl.NarrowOf -/
noncomputable def c32 : Cfg := ⟨Try.prog, [(21, s21), (33, s33)]⟩
def t32 : VC :=
 (.call 21 (.e (.var 0) (.e (.var 1) (.e (.var 2) (.e (.var 3) (.e (.var 4) (.e (.var 5) (.e (.var 6) .nil))))))) 1
 (.ite (.not (.eq (.var 7) (.lit 1)))
  (.fin (.e (.lit 0) (.e (.lit 1) .nil)))
  (.bind (.bits .or .u64 (.mul (.var 2) (.lit 4294967296)) (.var 1))
  (.bind (.wrap .i64 (.var 8))
  (.ite (.eq (.var 0) (.lit 1))
   (.bind (.wrap .i64 (.sub (.lit 0) (.var 9)))
   (.call 33 (.e (.var 10) .nil) 7
   (.ite (.not (.and (.beq (.eq (.var 11) (.lit 1)) (.eq (.var 0) (.lit 1))) (.and (.eq (.var 12) (.var 1)) (.and (.eq (.var 13) (.var 2)) (.and (.eq (.var 14) (.var 3)) (.and (.eq (.var 15) (.var 4)) (.and (.eq (.var 16) (.var 5)) (.eq (.var 17) (.var 6)))))))))
    (.fin (.e (.lit 0) (.e (.lit 2) .nil)))
    (.fin (.e (.var 10) (.e (.lit 0) .nil))))))
   (.call 33 (.e (.var 9) .nil) 7
   (.ite (.not (.and (.beq (.eq (.var 10) (.lit 1)) (.eq (.var 0) (.lit 1))) (.and (.eq (.var 11) (.var 1)) (.and (.eq (.var 12) (.var 2)) (.and (.eq (.var 13) (.var 3)) (.and (.eq (.var 14) (.var 4)) (.and (.eq (.var 15) (.var 5)) (.eq (.var 16) (.var 6)))))))))
    (.fin (.e (.lit 0) (.e (.lit 2) .nil)))
    (.fin (.e (.var 9) (.e (.lit 0) .nil))))))))))
theorem v32 : vcOf ⟨c32, []⟩ 250 Try.f32 s32 = t32 := by kernel_rfl

/-- loop.example/g01242/laws.FnExactCompareWides -/
noncomputable def c11 : Cfg := ⟨Try.prog, [(47, s47), (37, s37), (23, s23)]⟩
def t11 : VC :=
 (.call 47 (.e (.var 0) (.e (.var 1) (.e (.var 2) (.e (.var 3) (.e (.var 4) (.e (.var 5) (.e (.var 6) .nil))))))) 7
 (.call 47 (.e (.var 7) (.e (.var 8) (.e (.var 9) (.e (.var 10) (.e (.var 11) (.e (.var 12) (.e (.var 13) .nil))))))) 7
 (.call 37 (.e (.var 14) (.e (.var 15) (.e (.var 16) (.e (.var 17) (.e (.var 18) (.e (.var 19) (.e (.var 20) (.e (.var 21) (.e (.var 22) (.e (.var 23) (.e (.var 24) (.e (.var 25) (.e (.var 26) (.e (.var 27) .nil)))))))))))))) 2
 (.call 47 (.e (.var 0) (.e (.var 1) (.e (.var 2) (.e (.var 3) (.e (.var 4) (.e (.var 5) (.e (.var 6) .nil))))))) 7
 (.call 47 (.e (.var 7) (.e (.var 8) (.e (.var 9) (.e (.var 10) (.e (.var 11) (.e (.var 12) (.e (.var 13) .nil))))))) 7
 (.call 23 (.e (.var 30) (.e (.var 31) (.e (.var 32) (.e (.var 33) (.e (.var 34) (.e (.var 35) (.e (.var 36) (.e (.var 37) (.e (.var 38) (.e (.var 39) (.e (.var 40) (.e (.var 41) (.e (.var 42) (.e (.var 43) .nil)))))))))))))) 2
 (.ite (.eq (.var 44) (.var 28))
  (.ite (.not (.eq (.var 45) (.var 29)))
   (.fin (.e (.lit 0) .nil))
   (.fin (.e (.lit 1) .nil)))
  (.fin (.e (.lit 0) .nil)))))))))
theorem v11 : vcOf ⟨c11, []⟩ 250 Try.f11 s11 = t11 := by kernel_rfl

/-- loop.example/g01242/laws.FnExactNarrowOf -/
noncomputable def c8 : Cfg := ⟨Try.prog, [(47, s47), (50, s50), (32, s32)]⟩
def t8 : VC :=
 (.call 47 (.e (.var 0) (.e (.var 1) (.e (.var 2) (.e (.var 3) (.e (.var 4) (.e (.var 5) (.e (.var 6) .nil))))))) 7
 (.call 50 (.e (.var 7) (.e (.var 8) (.e (.var 9) (.e (.var 10) (.e (.var 11) (.e (.var 12) (.e (.var 13) .nil))))))) 2
 (.call 47 (.e (.var 0) (.e (.var 1) (.e (.var 2) (.e (.var 3) (.e (.var 4) (.e (.var 5) (.e (.var 6) .nil))))))) 7
 (.call 32 (.e (.var 16) (.e (.var 17) (.e (.var 18) (.e (.var 19) (.e (.var 20) (.e (.var 21) (.e (.var 22) .nil))))))) 2
 (.ite (.eq (.var 23) (.var 14))
  (.ite (.not (.eq (.var 24) (.var 15)))
   (.fin (.e (.lit 0) .nil))
   (.fin (.e (.lit 1) .nil)))
  (.fin (.e (.lit 0) .nil)))))))
theorem v8 : vcOf ⟨c8, []⟩ 250 Try.f8 s8 = t8 := by kernel_rfl

/-- (loop.example/g01242/impl.limbs).plus -/
noncomputable def c60 : Cfg := ⟨Try.prog, []⟩
def t60 : VC :=
 (.bind (.add (.var 0) (.var 6))
 (.bind (.wrap .u32 (.var 12))
 (.bind (.div (.var 12) (.lit 4294967296))
 (.bind (.add (.add (.var 1) (.var 7)) (.var 14))
 (.bind (.wrap .u32 (.var 15))
 (.bind (.div (.var 15) (.lit 4294967296))
 (.bind (.add (.add (.var 2) (.var 8)) (.var 17))
 (.bind (.wrap .u32 (.var 18))
 (.bind (.div (.var 18) (.lit 4294967296))
 (.bind (.add (.add (.var 3) (.var 9)) (.var 20))
 (.bind (.wrap .u32 (.var 21))
 (.bind (.div (.var 21) (.lit 4294967296))
 (.bind (.add (.add (.var 4) (.var 10)) (.var 23))
 (.bind (.wrap .u32 (.var 24))
 (.bind (.div (.var 24) (.lit 4294967296))
 (.bind (.add (.add (.var 5) (.var 11)) (.var 26))
 (.bind (.wrap .u32 (.var 27))
 (.bind (.div (.var 27) (.lit 4294967296))
 (.fin (.e (.var 13) (.e (.var 16) (.e (.var 19) (.e (.var 22) (.e (.var 25) (.e (.var 28) (.e (.ite (.not (.eq (.var 29) (.lit 0))) (.lit 1) (.lit 0)) .nil))))))))))))))))))))))))))
theorem v60 : vcOf ⟨c60, []⟩ 250 Try.f60 s60 = t60 := by kernel_rfl

/-- (loop.example/g01242/impl.limbs).minus -/
noncomputable def c67 : Cfg := ⟨Try.prog, []⟩
def t67 : VC :=
 (.bind (.wrap .u64 (.sub (.var 0) (.var 6)))
 (.bind (.wrap .u32 (.var 12))
 (.bind (.div (.var 12) (.lit 9223372036854775808))
 (.bind (.wrap .u64 (.sub (.wrap .u64 (.sub (.var 1) (.var 7))) (.var 14)))
 (.bind (.wrap .u32 (.var 15))
 (.bind (.div (.var 15) (.lit 9223372036854775808))
 (.bind (.wrap .u64 (.sub (.wrap .u64 (.sub (.var 2) (.var 8))) (.var 17)))
 (.bind (.wrap .u32 (.var 18))
 (.bind (.div (.var 18) (.lit 9223372036854775808))
 (.bind (.wrap .u64 (.sub (.wrap .u64 (.sub (.var 3) (.var 9))) (.var 20)))
 (.bind (.wrap .u32 (.var 21))
 (.bind (.div (.var 21) (.lit 9223372036854775808))
 (.bind (.wrap .u64 (.sub (.wrap .u64 (.sub (.var 4) (.var 10))) (.var 23)))
 (.bind (.wrap .u32 (.var 24))
 (.bind (.div (.var 24) (.lit 9223372036854775808))
 (.bind (.wrap .u64 (.sub (.wrap .u64 (.sub (.var 5) (.var 11))) (.var 26)))
 (.bind (.wrap .u32 (.var 27))
 (.bind (.div (.var 27) (.lit 9223372036854775808))
 (.fin (.e (.var 13) (.e (.var 16) (.e (.var 19) (.e (.var 22) (.e (.var 25) (.e (.var 28) .nil)))))))))))))))))))))))))
theorem v67 : vcOf ⟨c67, []⟩ 250 Try.f67 s67 = t67 := by kernel_rfl

/-- loop.example/g01242/spec.l01Plus -/
noncomputable def c94 : Cfg := ⟨Try.prog, []⟩
def t94 : VC :=
 (.bind (.add (.var 0) (.var 6))
 (.bind (.wrap .u32 (.var 12))
 (.bind (.div (.var 12) (.lit 4294967296))
 (.bind (.add (.add (.var 1) (.var 7)) (.var 14))
 (.bind (.wrap .u32 (.var 15))
 (.bind (.div (.var 15) (.lit 4294967296))
 (.bind (.add (.add (.var 2) (.var 8)) (.var 17))
 (.bind (.wrap .u32 (.var 18))
 (.bind (.div (.var 18) (.lit 4294967296))
 (.bind (.add (.add (.var 3) (.var 9)) (.var 20))
 (.bind (.wrap .u32 (.var 21))
 (.bind (.div (.var 21) (.lit 4294967296))
 (.bind (.add (.add (.var 4) (.var 10)) (.var 23))
 (.bind (.wrap .u32 (.var 24))
 (.bind (.div (.var 24) (.lit 4294967296))
 (.bind (.add (.add (.var 5) (.var 11)) (.var 26))
 (.bind (.wrap .u32 (.var 27))
 (.bind (.div (.var 27) (.lit 4294967296))
 (.fin (.e (.var 13) (.e (.var 16) (.e (.var 19) (.e (.var 22) (.e (.var 25) (.e (.var 28) (.e (.ite (.eq (.var 29) (.lit 0)) (.lit 1) (.lit 0)) .nil))))))))))))))))))))))))))
theorem v94 : vcOf ⟨c94, []⟩ 250 Try.f94 s94 = t94 := by kernel_rfl

/-- loop.example/g01242/spec.l01Minus -/
noncomputable def c96 : Cfg := ⟨Try.prog, []⟩
def t96 : VC :=
 (.bind (.sub (.var 0) (.var 6))
 (.bind (.ite (.lt (.var 12) (.lit 0)) (.lit 1) (.lit 0))
 (.bind (.ite (.lt (.var 12) (.lit 0)) (.add (.var 12) (.lit 4294967296)) (.var 12))
 (.bind (.wrap .u32 (.var 14))
 (.bind (.sub (.sub (.var 1) (.var 7)) (.var 13))
 (.bind (.ite (.lt (.var 16) (.lit 0)) (.lit 1) (.lit 0))
 (.bind (.ite (.lt (.var 16) (.lit 0)) (.add (.var 16) (.lit 4294967296)) (.var 16))
 (.bind (.wrap .u32 (.var 18))
 (.bind (.sub (.sub (.var 2) (.var 8)) (.var 17))
 (.bind (.ite (.lt (.var 20) (.lit 0)) (.lit 1) (.lit 0))
 (.bind (.ite (.lt (.var 20) (.lit 0)) (.add (.var 20) (.lit 4294967296)) (.var 20))
 (.bind (.wrap .u32 (.var 22))
 (.bind (.sub (.sub (.var 3) (.var 9)) (.var 21))
 (.bind (.ite (.lt (.var 24) (.lit 0)) (.lit 1) (.lit 0))
 (.bind (.ite (.lt (.var 24) (.lit 0)) (.add (.var 24) (.lit 4294967296)) (.var 24))
 (.bind (.wrap .u32 (.var 26))
 (.bind (.sub (.sub (.var 4) (.var 10)) (.var 25))
 (.bind (.ite (.lt (.var 28) (.lit 0)) (.lit 1) (.lit 0))
 (.bind (.ite (.lt (.var 28) (.lit 0)) (.add (.var 28) (.lit 4294967296)) (.var 28))
 (.bind (.wrap .u32 (.var 30))
 (.bind (.sub (.sub (.var 5) (.var 11)) (.var 29))
 (.bind (.ite (.lt (.var 32) (.lit 0)) (.lit 1) (.lit 0))
 (.bind (.ite (.lt (.var 32) (.lit 0)) (.add (.var 32) (.lit 4294967296)) (.var 32))
 (.bind (.wrap .u32 (.var 34))
 (.fin (.e (.var 15) (.e (.var 19) (.e (.var 23) (.e (.var 27) (.e (.var 31) (.e (.var 35) .nil)))))))))))))))))))))))))))))))
theorem v96 : vcOf ⟨c96, []⟩ 250 Try.f96 s96 = t96 := by kernel_rfl

/-- loop.example/g01242/spec.l01Add -/
noncomputable def c69 : Cfg := ⟨Try.prog, [(94, s94), (72, s72), (95, s95), (96, s96)]⟩
def t69 : VC :=
 (.ite (.beq (.eq (.var 0) (.lit 1)) (.eq (.var 7) (.lit 1)))
  (.call 94 (.e (.var 1) (.e (.var 2) (.e (.var 3) (.e (.var 4) (.e (.var 5) (.e (.var 6) (.e (.var 8) (.e (.var 9) (.e (.var 10) (.e (.var 11) (.e (.var 12) (.e (.var 13) .nil)))))))))))) 7
  (.ite (.not (.eq (.var 20) (.lit 1)))
   (.fin (.e (.lit 0) (.e (.lit 0) (.e (.lit 0) (.e (.lit 0) (.e (.lit 0) (.e (.lit 0) (.e (.lit 0) (.e (.lit 3) .nil)))))))))
   (.call 72 (.e (.var 0) (.e (.var 14) (.e (.var 15) (.e (.var 16) (.e (.var 17) (.e (.var 18) (.e (.var 19) .nil))))))) 7
   (.fin (.e (.var 21) (.e (.var 22) (.e (.var 23) (.e (.var 24) (.e (.var 25) (.e (.var 26) (.e (.var 27) (.e (.lit 0) .nil))))))))))))
  (.call 95 (.e (.var 1) (.e (.var 2) (.e (.var 3) (.e (.var 4) (.e (.var 5) (.e (.var 6) (.e (.var 8) (.e (.var 9) (.e (.var 10) (.e (.var 11) (.e (.var 12) (.e (.var 13) .nil)))))))))))) 1
  (.ite (.le (.lit 0) (.var 14))
   (.call 96 (.e (.var 1) (.e (.var 2) (.e (.var 3) (.e (.var 4) (.e (.var 5) (.e (.var 6) (.e (.var 8) (.e (.var 9) (.e (.var 10) (.e (.var 11) (.e (.var 12) (.e (.var 13) .nil)))))))))))) 6
   (.call 72 (.e (.var 0) (.e (.var 15) (.e (.var 16) (.e (.var 17) (.e (.var 18) (.e (.var 19) (.e (.var 20) .nil))))))) 7
   (.fin (.e (.var 21) (.e (.var 22) (.e (.var 23) (.e (.var 24) (.e (.var 25) (.e (.var 26) (.e (.var 27) (.e (.lit 0) .nil)))))))))))
   (.call 96 (.e (.var 8) (.e (.var 9) (.e (.var 10) (.e (.var 11) (.e (.var 12) (.e (.var 13) (.e (.var 1) (.e (.var 2) (.e (.var 3) (.e (.var 4) (.e (.var 5) (.e (.var 6) .nil)))))))))))) 6
   (.call 72 (.e (.var 7) (.e (.var 15) (.e (.var 16) (.e (.var 17) (.e (.var 18) (.e (.var 19) (.e (.var 20) .nil))))))) 7
   (.fin (.e (.var 21) (.e (.var 22) (.e (.var 23) (.e (.var 24) (.e (.var 25) (.e (.var 26) (.e (.var 27) (.e (.lit 0) .nil))))))))))))))
theorem v69 : vcOf ⟨c69, []⟩ 250 Try.f69 s69 = t69 := by kernel_rfl

/-- loop.example/g01242/spec.AddWides -/
noncomputable def c20 : Cfg := ⟨Try.prog, [(68, s68), (69, s69)]⟩
def t20 : VC :=
 (.call 68 (.e (.var 0) (.e (.var 1) (.e (.var 2) (.e (.var 3) (.e (.var 4) (.e (.var 5) (.e (.var 6) .nil))))))) 1
 (.ite (.eq (.var 14) (.lit 1))
  (.call 68 (.e (.var 7) (.e (.var 8) (.e (.var 9) (.e (.var 10) (.e (.var 11) (.e (.var 12) (.e (.var 13) .nil))))))) 1
  (.ite (.not (.eq (.var 15) (.lit 1)))
   (.fin (.e (.lit 0) (.e (.lit 0) (.e (.lit 0) (.e (.lit 0) (.e (.lit 0) (.e (.lit 0) (.e (.lit 0) (.e (.lit 1) .nil)))))))))
   (.call 69 (.e (.var 0) (.e (.var 1) (.e (.var 2) (.e (.var 3) (.e (.var 4) (.e (.var 5) (.e (.var 6) (.e (.var 7) (.e (.var 8) (.e (.var 9) (.e (.var 10) (.e (.var 11) (.e (.var 12) (.e (.var 13) .nil)))))))))))))) 8
   (.fin (.e (.var 16) (.e (.var 17) (.e (.var 18) (.e (.var 19) (.e (.var 20) (.e (.var 21) (.e (.var 22) (.e (.var 23) .nil))))))))))))
  (.fin (.e (.lit 0) (.e (.lit 0) (.e (.lit 0) (.e (.lit 0) (.e (.lit 0) (.e (.lit 0) (.e (.lit 0) (.e (.lit 1) .nil)))))))))))
theorem v20 : vcOf ⟨c20, []⟩ 250 Try.f20 s20 = t20 := by kernel_rfl

/-- loop.example/g01242/impl.AddWides -/
noncomputable def c19 : Cfg := ⟨Try.prog, [(21, s21), (60, s60), (65, s65), (66, s66), (67, s67), (61, s61)]⟩
def t19 : VC :=
 (.call 21 (.e (.var 0) (.e (.var 1) (.e (.var 2) (.e (.var 3) (.e (.var 4) (.e (.var 5) (.e (.var 6) .nil))))))) 1
 (.ite (.eq (.var 14) (.lit 1))
  (.call 21 (.e (.var 7) (.e (.var 8) (.e (.var 9) (.e (.var 10) (.e (.var 11) (.e (.var 12) (.e (.var 13) .nil))))))) 1
  (.ite (.not (.eq (.var 15) (.lit 1)))
   (.fin (.e (.lit 0) (.e (.lit 0) (.e (.lit 0) (.e (.lit 0) (.e (.lit 0) (.e (.lit 0) (.e (.lit 0) (.e (.lit 1) .nil)))))))))
   (.ite (.beq (.eq (.var 0) (.lit 1)) (.eq (.var 7) (.lit 1)))
    (.call 60 (.e (.var 1) (.e (.var 2) (.e (.var 3) (.e (.var 4) (.e (.var 5) (.e (.var 6) (.e (.var 8) (.e (.var 9) (.e (.var 10) (.e (.var 11) (.e (.var 12) (.e (.var 13) .nil)))))))))))) 7
    (.call 65 (.e (.var 0) (.e (.var 16) (.e (.var 17) (.e (.var 18) (.e (.var 19) (.e (.var 20) (.e (.var 21) (.e (.var 22) .nil)))))))) 8
    (.fin (.e (.var 23) (.e (.var 24) (.e (.var 25) (.e (.var 26) (.e (.var 27) (.e (.var 28) (.e (.var 29) (.e (.var 30) .nil)))))))))))
    (.call 66 (.e (.var 1) (.e (.var 2) (.e (.var 3) (.e (.var 4) (.e (.var 5) (.e (.var 6) (.e (.var 8) (.e (.var 9) (.e (.var 10) (.e (.var 11) (.e (.var 12) (.e (.var 13) .nil)))))))))))) 1
    (.ite (.le (.lit 0) (.var 16))
     (.call 67 (.e (.var 1) (.e (.var 2) (.e (.var 3) (.e (.var 4) (.e (.var 5) (.e (.var 6) (.e (.var 8) (.e (.var 9) (.e (.var 10) (.e (.var 11) (.e (.var 12) (.e (.var 13) .nil)))))))))))) 6
     (.call 61 (.e (.var 0) (.e (.var 17) (.e (.var 18) (.e (.var 19) (.e (.var 20) (.e (.var 21) (.e (.var 22) .nil))))))) 7
     (.fin (.e (.var 23) (.e (.var 24) (.e (.var 25) (.e (.var 26) (.e (.var 27) (.e (.var 28) (.e (.var 29) (.e (.lit 0) .nil)))))))))))
     (.call 67 (.e (.var 8) (.e (.var 9) (.e (.var 10) (.e (.var 11) (.e (.var 12) (.e (.var 13) (.e (.var 1) (.e (.var 2) (.e (.var 3) (.e (.var 4) (.e (.var 5) (.e (.var 6) .nil)))))))))))) 6
     (.call 61 (.e (.var 7) (.e (.var 17) (.e (.var 18) (.e (.var 19) (.e (.var 20) (.e (.var 21) (.e (.var 22) .nil))))))) 7
     (.fin (.e (.var 23) (.e (.var 24) (.e (.var 25) (.e (.var 26) (.e (.var 27) (.e (.var 28) (.e (.var 29) (.e (.lit 0) .nil))))))))))))))))
  (.fin (.e (.lit 0) (.e (.lit 0) (.e (.lit 0) (.e (.lit 0) (.e (.lit 0) (.e (.lit 0) (.e (.lit 0) (.e (.lit 1) .nil)))))))))))
theorem v19 : vcOf ⟨c19, []⟩ 250 Try.f19 s19 = t19 := by kernel_rfl

/-- loop.example/g01242/impl.wideWithin -/
noncomputable def c65 : Cfg := ⟨Try.prog, [(61, s61)]⟩
def t65 : VC :=
 (.ite (.eq (.var 7) (.lit 1))
  (.fin (.e (.lit 0) (.e (.lit 0) (.e (.lit 0) (.e (.lit 0) (.e (.lit 0) (.e (.lit 0) (.e (.lit 0) (.e (.lit 3) .nil)))))))))
  (.call 61 (.e (.var 0) (.e (.var 1) (.e (.var 2) (.e (.var 3) (.e (.var 4) (.e (.var 5) (.e (.var 6) .nil))))))) 7
  (.fin (.e (.var 8) (.e (.var 9) (.e (.var 10) (.e (.var 11) (.e (.var 12) (.e (.var 13) (.e (.var 14) (.e (.lit 0) .nil)))))))))))
theorem v65 : vcOf ⟨c65, []⟩ 250 Try.f65 s65 = t65 := by kernel_rfl

/-- loop.example/g01242/laws.FnExactAddWides -/
noncomputable def c13 : Cfg := ⟨Try.prog, [(47, s47), (20, s20), (19, s19), (49, s49)]⟩
def t13 : VC :=
 (.call 47 (.e (.var 0) (.e (.var 1) (.e (.var 2) (.e (.var 3) (.e (.var 4) (.e (.var 5) (.e (.var 6) .nil))))))) 7
 (.call 47 (.e (.var 7) (.e (.var 8) (.e (.var 9) (.e (.var 10) (.e (.var 11) (.e (.var 12) (.e (.var 13) .nil))))))) 7
 (.call 20 (.e (.var 14) (.e (.var 15) (.e (.var 16) (.e (.var 17) (.e (.var 18) (.e (.var 19) (.e (.var 20) (.e (.var 21) (.e (.var 22) (.e (.var 23) (.e (.var 24) (.e (.var 25) (.e (.var 26) (.e (.var 27) .nil)))))))))))))) 8
 (.call 47 (.e (.var 0) (.e (.var 1) (.e (.var 2) (.e (.var 3) (.e (.var 4) (.e (.var 5) (.e (.var 6) .nil))))))) 7
 (.call 47 (.e (.var 7) (.e (.var 8) (.e (.var 9) (.e (.var 10) (.e (.var 11) (.e (.var 12) (.e (.var 13) .nil))))))) 7
 (.call 19 (.e (.var 36) (.e (.var 37) (.e (.var 38) (.e (.var 39) (.e (.var 40) (.e (.var 41) (.e (.var 42) (.e (.var 43) (.e (.var 44) (.e (.var 45) (.e (.var 46) (.e (.var 47) (.e (.var 48) (.e (.var 49) .nil)))))))))))))) 8
 (.call 49 (.e (.var 50) (.e (.var 51) (.e (.var 52) (.e (.var 53) (.e (.var 54) (.e (.var 55) (.e (.var 56) (.e (.var 28) (.e (.var 29) (.e (.var 30) (.e (.var 31) (.e (.var 32) (.e (.var 33) (.e (.var 34) .nil)))))))))))))) 1
 (.ite (.eq (.var 58) (.lit 1))
  (.ite (.not (.eq (.var 57) (.var 35)))
   (.fin (.e (.lit 0) .nil))
   (.fin (.e (.lit 1) .nil)))
  (.fin (.e (.lit 0) .nil))))))))))
theorem v13 : vcOf ⟨c13, []⟩ 250 Try.f13 s13 = t13 := by kernel_rfl

/-- loop.example/g01242/spec.SubWides -/
noncomputable def c54 : Cfg := ⟨Try.prog, [(68, s68), (90, s90), (69, s69)]⟩
def t54 : VC :=
 (.call 68 (.e (.var 0) (.e (.var 1) (.e (.var 2) (.e (.var 3) (.e (.var 4) (.e (.var 5) (.e (.var 6) .nil))))))) 1
 (.ite (.eq (.var 14) (.lit 1))
  (.call 68 (.e (.var 7) (.e (.var 8) (.e (.var 9) (.e (.var 10) (.e (.var 11) (.e (.var 12) (.e (.var 13) .nil))))))) 1
  (.ite (.not (.eq (.var 15) (.lit 1)))
   (.fin (.e (.lit 0) (.e (.lit 0) (.e (.lit 0) (.e (.lit 0) (.e (.lit 0) (.e (.lit 0) (.e (.lit 0) (.e (.lit 1) .nil)))))))))
   (.call 90 (.e (.var 7) (.e (.var 8) (.e (.var 9) (.e (.var 10) (.e (.var 11) (.e (.var 12) (.e (.var 13) .nil))))))) 7
   (.call 69 (.e (.var 0) (.e (.var 1) (.e (.var 2) (.e (.var 3) (.e (.var 4) (.e (.var 5) (.e (.var 6) (.e (.var 16) (.e (.var 17) (.e (.var 18) (.e (.var 19) (.e (.var 20) (.e (.var 21) (.e (.var 22) .nil)))))))))))))) 8
   (.fin (.e (.var 23) (.e (.var 24) (.e (.var 25) (.e (.var 26) (.e (.var 27) (.e (.var 28) (.e (.var 29) (.e (.var 30) .nil)))))))))))))
  (.fin (.e (.lit 0) (.e (.lit 0) (.e (.lit 0) (.e (.lit 0) (.e (.lit 0) (.e (.lit 0) (.e (.lit 0) (.e (.lit 1) .nil)))))))))))
theorem v54 : vcOf ⟨c54, []⟩ 250 Try.f54 s54 = t54 := by kernel_rfl

/-- loop.example/g01242/impl.SubWides -/
noncomputable def c22 : Cfg := ⟨Try.prog, [(25, s25), (19, s19)]⟩
def t22 : VC :=
 (.call 25 (.e (.var 7) (.e (.var 8) (.e (.var 9) (.e (.var 10) (.e (.var 11) (.e (.var 12) (.e (.var 13) .nil))))))) 8
 (.ite (.not (.eq (.var 21) (.lit 0)))
  (.fin (.e (.lit 0) (.e (.lit 0) (.e (.lit 0) (.e (.lit 0) (.e (.lit 0) (.e (.lit 0) (.e (.lit 0) (.e (.var 21) .nil)))))))))
  (.call 19 (.e (.var 0) (.e (.var 1) (.e (.var 2) (.e (.var 3) (.e (.var 4) (.e (.var 5) (.e (.var 6) (.e (.var 14) (.e (.var 15) (.e (.var 16) (.e (.var 17) (.e (.var 18) (.e (.var 19) (.e (.var 20) .nil)))))))))))))) 8
  (.fin (.e (.var 22) (.e (.var 23) (.e (.var 24) (.e (.var 25) (.e (.var 26) (.e (.var 27) (.e (.var 28) (.e (.var 29) .nil))))))))))))
theorem v22 : vcOf ⟨c22, []⟩ 250 Try.f22 s22 = t22 := by kernel_rfl

/-- loop.example/g01242/laws.FnExactSubWides -/
noncomputable def c14 : Cfg := ⟨Try.prog, [(47, s47), (54, s54), (22, s22), (49, s49)]⟩
def t14 : VC :=
 (.call 47 (.e (.var 0) (.e (.var 1) (.e (.var 2) (.e (.var 3) (.e (.var 4) (.e (.var 5) (.e (.var 6) .nil))))))) 7
 (.call 47 (.e (.var 7) (.e (.var 8) (.e (.var 9) (.e (.var 10) (.e (.var 11) (.e (.var 12) (.e (.var 13) .nil))))))) 7
 (.call 54 (.e (.var 14) (.e (.var 15) (.e (.var 16) (.e (.var 17) (.e (.var 18) (.e (.var 19) (.e (.var 20) (.e (.var 21) (.e (.var 22) (.e (.var 23) (.e (.var 24) (.e (.var 25) (.e (.var 26) (.e (.var 27) .nil)))))))))))))) 8
 (.call 47 (.e (.var 0) (.e (.var 1) (.e (.var 2) (.e (.var 3) (.e (.var 4) (.e (.var 5) (.e (.var 6) .nil))))))) 7
 (.call 47 (.e (.var 7) (.e (.var 8) (.e (.var 9) (.e (.var 10) (.e (.var 11) (.e (.var 12) (.e (.var 13) .nil))))))) 7
 (.call 22 (.e (.var 36) (.e (.var 37) (.e (.var 38) (.e (.var 39) (.e (.var 40) (.e (.var 41) (.e (.var 42) (.e (.var 43) (.e (.var 44) (.e (.var 45) (.e (.var 46) (.e (.var 47) (.e (.var 48) (.e (.var 49) .nil)))))))))))))) 8
 (.call 49 (.e (.var 50) (.e (.var 51) (.e (.var 52) (.e (.var 53) (.e (.var 54) (.e (.var 55) (.e (.var 56) (.e (.var 28) (.e (.var 29) (.e (.var 30) (.e (.var 31) (.e (.var 32) (.e (.var 33) (.e (.var 34) .nil)))))))))))))) 1
 (.ite (.eq (.var 58) (.lit 1))
  (.ite (.not (.eq (.var 57) (.var 35)))
   (.fin (.e (.lit 0) .nil))
   (.fin (.e (.lit 1) .nil)))
  (.fin (.e (.lit 0) .nil))))))))))
theorem v14 : vcOf ⟨c14, []⟩ 250 Try.f14 s14 = t14 := by kernel_rfl

end Go.Proofs.Ytppbanmlifikpaa.Sx
