/-
  What the symbolic executor asks of these functions, written out by a program of mine (wip/tools), and that it asks just this.
-/
import Derived.Test.YtppbanmlifikpaaSxR
import Derived.Test.YtppbanmlifikpaaChecked
import Derived.KernelRfl
namespace Go.Proofs.Ytppbanmlifikpaa.Sx
open Go Go.RowKit

def s6 : Sig := ⟨[.val true [.b, .i .u32, .i .u32, .i .u32, .i .u32, .i .u32, .i .u32]], [(false, [.b])], true⟩
def s7 : Sig := ⟨[.val false [.i .i64]], [(false, [.b])], true⟩
def s12 : Sig := ⟨[.val true [.b, .i .u32, .i .u32, .i .u32, .i .u32, .i .u32, .i .u32]], [(false, [.b])], true⟩
def s85 : Sig := ⟨[.val true [.i .u32, .i .u32, .i .u32, .i .u32, .i .u32, .i .u32]], [(true, [.i .u32, .i .u32, .i .u32, .i .u32, .i .u32, .i .u32])], true⟩
def s47 : Sig := ⟨[.val true [.b, .i .u32, .i .u32, .i .u32, .i .u32, .i .u32, .i .u32]], [(true, [.b, .i .u32, .i .u32, .i .u32, .i .u32, .i .u32, .i .u32])], true⟩
def s49 : Sig := ⟨[.val true [.b, .i .u32, .i .u32, .i .u32, .i .u32, .i .u32, .i .u32], .val true [.b, .i .u32, .i .u32, .i .u32, .i .u32, .i .u32, .i .u32]], [(false, [.b])], true⟩
def s87 : Sig := ⟨[.val true [.i .u32, .i .u32, .i .u32, .i .u32, .i .u32, .i .u32], .val true [.i .u32, .i .u32, .i .u32, .i .u32, .i .u32, .i .u32]], [(false, [.b])], true⟩
def s46 : Sig := ⟨[.val true [.b, .i .u32, .i .u32, .i .u32, .i .u32, .i .u32, .i .u32]], [(false, [.b])], true⟩
def s68 : Sig := ⟨[.ptr [.b, .i .u32, .i .u32, .i .u32, .i .u32, .i .u32, .i .u32]], [(false, [.b])], true⟩
def s48 : Sig := ⟨[.val false [.i .i64]], [(true, [.b, .i .u32, .i .u32, .i .u32, .i .u32, .i .u32, .i .u32])], true⟩
def s86 : Sig := ⟨[.val false [.i .i64]], [(true, [.b, .i .u32, .i .u32, .i .u32, .i .u32, .i .u32, .i .u32])], true⟩
def s72 : Sig := ⟨[.val false [.b], .val true [.i .u32, .i .u32, .i .u32, .i .u32, .i .u32, .i .u32]], [(true, [.b, .i .u32, .i .u32, .i .u32, .i .u32, .i .u32, .i .u32])], true⟩
def s101 : Sig := ⟨[.ptr [.i .u32, .i .u32, .i .u32, .i .u32, .i .u32, .i .u32]], [(false, [.b])], true⟩
def s53 : Sig := ⟨[.val true [.b, .i .u32, .i .u32, .i .u32, .i .u32, .i .u32, .i .u32]], [(true, [.b, .i .u32, .i .u32, .i .u32, .i .u32, .i .u32, .i .u32]), (false, [.i .i64])], true⟩
def s90 : Sig := ⟨[.val true [.b, .i .u32, .i .u32, .i .u32, .i .u32, .i .u32, .i .u32]], [(true, [.b, .i .u32, .i .u32, .i .u32, .i .u32, .i .u32, .i .u32])], true⟩
def s21 : Sig := ⟨[.val true [.b, .i .u32, .i .u32, .i .u32, .i .u32, .i .u32, .i .u32]], [(false, [.b])], true⟩
def s33 : Sig := ⟨[.val false [.i .i64]], [(true, [.b, .i .u32, .i .u32, .i .u32, .i .u32, .i .u32, .i .u32])], true⟩
def s61 : Sig := ⟨[.val false [.b], .val true [.i .u32, .i .u32, .i .u32, .i .u32, .i .u32, .i .u32]], [(true, [.b, .i .u32, .i .u32, .i .u32, .i .u32, .i .u32, .i .u32])], true⟩
def s63 : Sig := ⟨[.val true [.i .u32, .i .u32, .i .u32, .i .u32, .i .u32, .i .u32]], [(false, [.b])], true⟩
def s25 : Sig := ⟨[.val true [.b, .i .u32, .i .u32, .i .u32, .i .u32, .i .u32, .i .u32]], [(true, [.b, .i .u32, .i .u32, .i .u32, .i .u32, .i .u32, .i .u32]), (false, [.i .i64])], true⟩
def s66 : Sig := ⟨[.val true [.i .u32, .i .u32, .i .u32, .i .u32, .i .u32, .i .u32], .val true [.i .u32, .i .u32, .i .u32, .i .u32, .i .u32, .i .u32]], [(false, [.i .i64])], true⟩
def s95 : Sig := ⟨[.ptr [.i .u32, .i .u32, .i .u32, .i .u32, .i .u32, .i .u32], .ptr [.i .u32, .i .u32, .i .u32, .i .u32, .i .u32, .i .u32]], [(false, [.i .i64])], true⟩
def s79 : Sig := ⟨[.ptr [.b, .i .u32, .i .u32, .i .u32, .i .u32, .i .u32, .i .u32], .ptr [.b, .i .u32, .i .u32, .i .u32, .i .u32, .i .u32, .i .u32]], [(false, [.i .i64])], true⟩
def s37 : Sig := ⟨[.val true [.b, .i .u32, .i .u32, .i .u32, .i .u32, .i .u32, .i .u32], .val true [.b, .i .u32, .i .u32, .i .u32, .i .u32, .i .u32, .i .u32]], [(false, [.i .i64]), (false, [.i .i64])], true⟩
def s23 : Sig := ⟨[.val true [.b, .i .u32, .i .u32, .i .u32, .i .u32, .i .u32, .i .u32], .val true [.b, .i .u32, .i .u32, .i .u32, .i .u32, .i .u32, .i .u32]], [(false, [.i .i64]), (false, [.i .i64])], true⟩
def s88 : Sig := ⟨[.ptr [.b, .i .u32, .i .u32, .i .u32, .i .u32, .i .u32, .i .u32]], [(false, [.i .i64]), (false, [.b])], true⟩
def s50 : Sig := ⟨[.val true [.b, .i .u32, .i .u32, .i .u32, .i .u32, .i .u32, .i .u32]], [(false, [.i .i64]), (false, [.i .i64])], true⟩
def s32 : Sig := ⟨[.val true [.b, .i .u32, .i .u32, .i .u32, .i .u32, .i .u32, .i .u32]], [(false, [.i .i64]), (false, [.i .i64])], true⟩
def s11 : Sig := ⟨[.val true [.b, .i .u32, .i .u32, .i .u32, .i .u32, .i .u32, .i .u32], .val true [.b, .i .u32, .i .u32, .i .u32, .i .u32, .i .u32, .i .u32]], [(false, [.b])], true⟩
def s8 : Sig := ⟨[.val true [.b, .i .u32, .i .u32, .i .u32, .i .u32, .i .u32, .i .u32]], [(false, [.b])], true⟩
def sigsV1 : List (Nat × Sig) := [(6, s6), (7, s7), (12, s12), (85, s85), (47, s47), (49, s49), (87, s87), (46, s46), (68, s68), (48, s48), (86, s86), (72, s72), (101, s101), (53, s53), (90, s90), (21, s21), (33, s33), (61, s61), (63, s63), (25, s25), (66, s66), (95, s95), (79, s79), (37, s37), (23, s23), (88, s88), (50, s50), (32, s32), (11, s11), (8, s8)]
/-- loop.example/g01242/laws.FnExactValidWide -/
noncomputable def c6 : Cfg := ⟨Try.prog, [(47, s47), (46, s46), (21, s21)]⟩
def t6 : VC :=
 (.call 47 (.e (.var 0) (.e (.var 1) (.e (.var 2) (.e (.var 3) (.e (.var 4) (.e (.var 5) (.e (.var 6) .nil))))))) 7
 (.call 46 (.e (.var 7) (.e (.var 8) (.e (.var 9) (.e (.var 10) (.e (.var 11) (.e (.var 12) (.e (.var 13) .nil))))))) 1
 (.call 47 (.e (.var 0) (.e (.var 1) (.e (.var 2) (.e (.var 3) (.e (.var 4) (.e (.var 5) (.e (.var 6) .nil))))))) 7
 (.call 21 (.e (.var 15) (.e (.var 16) (.e (.var 17) (.e (.var 18) (.e (.var 19) (.e (.var 20) (.e (.var 21) .nil))))))) 1
 (.ite (.not (.beq (.eq (.var 22) (.lit 1)) (.eq (.var 14) (.lit 1))))
  (.fin (.e (.lit 0) .nil))
  (.fin (.e (.lit 1) .nil)))))))
theorem v6 : vcOf ⟨c6, []⟩ 250 Try.f6 s6 = t6 := by kernel_rfl

/-- loop.example/g01242/laws.FnExactWideOf -/
noncomputable def c7 : Cfg := ⟨Try.prog, [(48, s48), (33, s33), (49, s49)]⟩
def t7 : VC :=
 (.call 48 (.e (.var 0) .nil) 7
 (.call 33 (.e (.var 0) .nil) 7
 (.call 49 (.e (.var 8) (.e (.var 9) (.e (.var 10) (.e (.var 11) (.e (.var 12) (.e (.var 13) (.e (.var 14) (.e (.var 1) (.e (.var 2) (.e (.var 3) (.e (.var 4) (.e (.var 5) (.e (.var 6) (.e (.var 7) .nil)))))))))))))) 1
 (.ite (.not (.eq (.var 15) (.lit 1)))
  (.fin (.e (.lit 0) .nil))
  (.fin (.e (.lit 1) .nil))))))
theorem v7 : vcOf ⟨c7, []⟩ 250 Try.f7 s7 = t7 := by kernel_rfl

/-- loop.example/g01242/laws.FnExactNegWide -/
noncomputable def c12 : Cfg := ⟨Try.prog, [(47, s47), (53, s53), (25, s25), (49, s49)]⟩
def t12 : VC :=
 (.call 47 (.e (.var 0) (.e (.var 1) (.e (.var 2) (.e (.var 3) (.e (.var 4) (.e (.var 5) (.e (.var 6) .nil))))))) 7
 (.call 53 (.e (.var 7) (.e (.var 8) (.e (.var 9) (.e (.var 10) (.e (.var 11) (.e (.var 12) (.e (.var 13) .nil))))))) 8
 (.call 47 (.e (.var 0) (.e (.var 1) (.e (.var 2) (.e (.var 3) (.e (.var 4) (.e (.var 5) (.e (.var 6) .nil))))))) 7
 (.call 25 (.e (.var 22) (.e (.var 23) (.e (.var 24) (.e (.var 25) (.e (.var 26) (.e (.var 27) (.e (.var 28) .nil))))))) 8
 (.call 49 (.e (.var 29) (.e (.var 30) (.e (.var 31) (.e (.var 32) (.e (.var 33) (.e (.var 34) (.e (.var 35) (.e (.var 14) (.e (.var 15) (.e (.var 16) (.e (.var 17) (.e (.var 18) (.e (.var 19) (.e (.var 20) .nil)))))))))))))) 1
 (.ite (.eq (.var 37) (.lit 1))
  (.ite (.not (.eq (.var 36) (.var 21)))
   (.fin (.e (.lit 0) .nil))
   (.fin (.e (.lit 1) .nil)))
  (.fin (.e (.lit 0) .nil))))))))
theorem v12 : vcOf ⟨c12, []⟩ 250 Try.f12 s12 = t12 := by kernel_rfl

/-- loop.example/g01242/laws.toUint32A6 -/
noncomputable def c85 : Cfg := ⟨Try.prog, []⟩
def t85 : VC :=
 (.fin (.e (.var 0) (.e (.var 1) (.e (.var 2) (.e (.var 3) (.e (.var 4) (.e (.var 5) .nil)))))))
theorem v85 : vcOf ⟨c85, []⟩ 250 Try.f85 s85 = t85 := by kernel_rfl

/-- loop.example/g01242/laws.toWide -/
noncomputable def c47 : Cfg := ⟨Try.prog, [(85, s85)]⟩
def t47 : VC :=
 (.call 85 (.e (.var 1) (.e (.var 2) (.e (.var 3) (.e (.var 4) (.e (.var 5) (.e (.var 6) .nil)))))) 6
 (.fin (.e (.var 0) (.e (.var 7) (.e (.var 8) (.e (.var 9) (.e (.var 10) (.e (.var 11) (.e (.var 12) .nil)))))))))
theorem v47 : vcOf ⟨c47, []⟩ 250 Try.f47 s47 = t47 := by kernel_rfl

/-- loop.example/g01242/laws.eqWide -/
noncomputable def c49 : Cfg := ⟨Try.prog, [(87, s87)]⟩
def t49 : VC :=
 (.ite (.not (.beq (.eq (.var 0) (.lit 1)) (.eq (.var 7) (.lit 1))))
  (.fin (.e (.lit 0) .nil))
  (.call 87 (.e (.var 1) (.e (.var 2) (.e (.var 3) (.e (.var 4) (.e (.var 5) (.e (.var 6) (.e (.var 8) (.e (.var 9) (.e (.var 10) (.e (.var 11) (.e (.var 12) (.e (.var 13) .nil)))))))))))) 1
  (.ite (.not (.eq (.var 14) (.lit 1)))
   (.fin (.e (.lit 0) .nil))
   (.fin (.e (.lit 1) .nil)))))
theorem v49 : vcOf ⟨c49, []⟩ 250 Try.f49 s49 = t49 := by kernel_rfl

/-- loop.example/g01242/laws.eqUint32A6 -/
noncomputable def c87 : Cfg := ⟨Try.prog, []⟩
def t87 : VC :=
 (.ite (.not (.eq (.var 0) (.var 6)))
  (.fin (.e (.lit 0) .nil))
  (.ite (.not (.eq (.var 1) (.var 7)))
   (.fin (.e (.lit 0) .nil))
   (.ite (.not (.eq (.var 2) (.var 8)))
    (.fin (.e (.lit 0) .nil))
    (.ite (.not (.eq (.var 3) (.var 9)))
     (.fin (.e (.lit 0) .nil))
     (.ite (.not (.eq (.var 4) (.var 10)))
      (.fin (.e (.lit 0) .nil))
      (.ite (.not (.eq (.var 5) (.var 11)))
       (.fin (.e (.lit 0) .nil))
       (.fin (.e (.lit 1) .nil))))))))
theorem v87 : vcOf ⟨c87, []⟩ 250 Try.f87 s87 = t87 := by kernel_rfl

/-- loop.example/g01242/spec.ValidWide -/
noncomputable def c46 : Cfg := ⟨Try.prog, [(68, s68)]⟩
def t46 : VC :=
 (.call 68 (.e (.var 0) (.e (.var 1) (.e (.var 2) (.e (.var 3) (.e (.var 4) (.e (.var 5) (.e (.var 6) .nil))))))) 1
 (.fin (.e (.var 7) .nil)))
theorem v46 : vcOf ⟨c46, []⟩ 250 Try.f46 s46 = t46 := by kernel_rfl

/-- loop.example/g01242/spec.l01Ok -/
noncomputable def c68 : Cfg := ⟨Try.prog, []⟩
def t68 : VC :=
 (.ite (.eq (.var 0) (.lit 1))
  (.bind (.ite (.not (.and (.eq (.var 1) (.lit 0)) (.and (.eq (.var 2) (.lit 0)) (.and (.eq (.var 3) (.lit 0)) (.and (.eq (.var 4) (.lit 0)) (.and (.eq (.var 5) (.lit 0)) (.eq (.var 6) (.lit 0)))))))) (.lit 1) (.lit 0))
  (.fin (.e (.var 7) .nil)))
  (.fin (.e (.lit 1) .nil)))
theorem v68 : vcOf ⟨c68, []⟩ 250 Try.f68 s68 = t68 := by kernel_rfl

/-- loop.example/g01242/spec.WideOf -/
noncomputable def c48 : Cfg := ⟨Try.prog, [(86, s86)]⟩
def t48 : VC :=
 (.call 86 (.e (.var 0) .nil) 7
 (.fin (.e (.var 1) (.e (.var 2) (.e (.var 3) (.e (.var 4) (.e (.var 5) (.e (.var 6) (.e (.var 7) .nil)))))))))
theorem v48 : vcOf ⟨c48, []⟩ 250 Try.f48 s48 = t48 := by kernel_rfl

/-- loop.example/g01242/spec.l01Of -/
noncomputable def c86 : Cfg := ⟨Try.prog, [(72, s72)]⟩
def t86 : VC :=
 (.bind (.wrap .u64 (.var 0))
 (.ite (.lt (.var 0) (.lit 0))
  (.bind (.wrap .u64 (.sub (.lit 0) (.var 1)))
  (.bind (.wrap .u32 (.var 2))
  (.bind (.div (.var 2) (.lit 4294967296))
  (.call 72 (.e (.lit 1) (.e (.var 3) (.e (.var 4) (.e (.lit 0) (.e (.lit 0) (.e (.lit 0) (.e (.lit 0) .nil))))))) 7
  (.fin (.e (.var 5) (.e (.var 6) (.e (.var 7) (.e (.var 8) (.e (.var 9) (.e (.var 10) (.e (.var 11) .nil))))))))))))
  (.bind (.wrap .u32 (.var 1))
  (.bind (.div (.var 1) (.lit 4294967296))
  (.call 72 (.e (.lit 0) (.e (.var 2) (.e (.var 3) (.e (.lit 0) (.e (.lit 0) (.e (.lit 0) (.e (.lit 0) .nil))))))) 7
  (.fin (.e (.var 4) (.e (.var 5) (.e (.var 6) (.e (.var 7) (.e (.var 8) (.e (.var 9) (.e (.var 10) .nil)))))))))))))
theorem v86 : vcOf ⟨c86, []⟩ 250 Try.f86 s86 = t86 := by kernel_rfl

/-- loop.example/g01242/spec.l01Made -/
noncomputable def c72 : Cfg := ⟨Try.prog, [(101, s101)]⟩
def t72 : VC :=
 (.ite (.eq (.var 0) (.lit 1))
  (.call 101 (.e (.var 1) (.e (.var 2) (.e (.var 3) (.e (.var 4) (.e (.var 5) (.e (.var 6) .nil)))))) 1
  (.fin (.e (.ite (.not (.eq (.var 7) (.lit 1))) (.lit 1) (.lit 0)) (.e (.var 1) (.e (.var 2) (.e (.var 3) (.e (.var 4) (.e (.var 5) (.e (.var 6) .nil)))))))))
  (.fin (.e (.lit 0) (.e (.var 1) (.e (.var 2) (.e (.var 3) (.e (.var 4) (.e (.var 5) (.e (.var 6) .nil)))))))))
theorem v72 : vcOf ⟨c72, []⟩ 250 Try.f72 s72 = t72 := by kernel_rfl

/-- loop.example/g01242/spec.l01Zero -/
noncomputable def c101 : Cfg := ⟨Try.prog, []⟩
def t101 : VC :=
 (.bind (.ite (.and (.eq (.var 0) (.lit 0)) (.and (.eq (.var 1) (.lit 0)) (.and (.eq (.var 2) (.lit 0)) (.and (.eq (.var 3) (.lit 0)) (.and (.eq (.var 4) (.lit 0)) (.eq (.var 5) (.lit 0))))))) (.lit 1) (.lit 0))
 (.fin (.e (.var 6) .nil)))
theorem v101 : vcOf ⟨c101, []⟩ 250 Try.f101 s101 = t101 := by kernel_rfl

/-- loop.example/g01242/spec.NegWide -/
noncomputable def c53 : Cfg := ⟨Try.prog, [(68, s68), (90, s90)]⟩
def t53 : VC :=
 (.call 68 (.e (.var 0) (.e (.var 1) (.e (.var 2) (.e (.var 3) (.e (.var 4) (.e (.var 5) (.e (.var 6) .nil))))))) 1
 (.ite (.not (.eq (.var 7) (.lit 1)))
  (.fin (.e (.lit 0) (.e (.lit 0) (.e (.lit 0) (.e (.lit 0) (.e (.lit 0) (.e (.lit 0) (.e (.lit 0) (.e (.lit 1) .nil)))))))))
  (.call 90 (.e (.var 0) (.e (.var 1) (.e (.var 2) (.e (.var 3) (.e (.var 4) (.e (.var 5) (.e (.var 6) .nil))))))) 7
  (.fin (.e (.var 8) (.e (.var 9) (.e (.var 10) (.e (.var 11) (.e (.var 12) (.e (.var 13) (.e (.var 14) (.e (.lit 0) .nil))))))))))))
theorem v53 : vcOf ⟨c53, []⟩ 250 Try.f53 s53 = t53 := by kernel_rfl

/-- loop.example/g01242/spec.l01Neg -/
noncomputable def c90 : Cfg := ⟨Try.prog, [(72, s72)]⟩
def t90 : VC :=
 (.call 72 (.e (.ite (.not (.eq (.var 0) (.lit 1))) (.lit 1) (.lit 0)) (.e (.var 1) (.e (.var 2) (.e (.var 3) (.e (.var 4) (.e (.var 5) (.e (.var 6) .nil))))))) 7
 (.fin (.e (.var 7) (.e (.var 8) (.e (.var 9) (.e (.var 10) (.e (.var 11) (.e (.var 12) (.e (.var 13) .nil)))))))))
theorem v90 : vcOf ⟨c90, []⟩ 250 Try.f90 s90 = t90 := by kernel_rfl

/-- loop.example/g01242/impl.ValidWide -/
noncomputable def c21 : Cfg := ⟨Try.prog, []⟩
def t21 : VC :=
 (.ite (.eq (.var 0) (.lit 1))
  (.bind (.ite (.not (.and (.eq (.var 1) (.lit 0)) (.and (.eq (.var 2) (.lit 0)) (.and (.eq (.var 3) (.lit 0)) (.and (.eq (.var 4) (.lit 0)) (.and (.eq (.var 5) (.lit 0)) (.eq (.var 6) (.lit 0)))))))) (.lit 1) (.lit 0))
  (.fin (.e (.var 7) .nil)))
  (.fin (.e (.lit 1) .nil)))
theorem v21 : vcOf ⟨c21, []⟩ 250 Try.f21 s21 = t21 := by kernel_rfl

/-- loop.example/g01242/impl.WideOf -/
noncomputable def c33 : Cfg := ⟨Try.prog, [(61, s61)]⟩
def t33 : VC :=
 (.bind (.wrap .u64 (.var 0))
 (.ite (.lt (.var 0) (.lit 0))
  (.bind (.wrap .u64 (.sub (.lit 0) (.var 1)))
  (.call 61 (.e (.lit 1) (.e (.wrap .u32 (.var 2)) (.e (.div (.var 2) (.lit 4294967296)) (.e (.lit 0) (.e (.lit 0) (.e (.lit 0) (.e (.lit 0) .nil))))))) 7
  (.fin (.e (.var 3) (.e (.var 4) (.e (.var 5) (.e (.var 6) (.e (.var 7) (.e (.var 8) (.e (.var 9) .nil))))))))))
  (.call 61 (.e (.lit 0) (.e (.wrap .u32 (.var 1)) (.e (.div (.var 1) (.lit 4294967296)) (.e (.lit 0) (.e (.lit 0) (.e (.lit 0) (.e (.lit 0) .nil))))))) 7
  (.fin (.e (.var 2) (.e (.var 3) (.e (.var 4) (.e (.var 5) (.e (.var 6) (.e (.var 7) (.e (.var 8) .nil)))))))))))
theorem v33 : vcOf ⟨c33, []⟩ 250 Try.f33 s33 = t33 := by kernel_rfl

/-- loop.example/g01242/impl.wideOfSize -/
noncomputable def c61 : Cfg := ⟨Try.prog, [(63, s63)]⟩
def t61 : VC :=
 (.ite (.eq (.var 0) (.lit 1))
  (.call 63 (.e (.var 1) (.e (.var 2) (.e (.var 3) (.e (.var 4) (.e (.var 5) (.e (.var 6) .nil)))))) 1
  (.fin (.e (.ite (.not (.eq (.var 7) (.lit 1))) (.lit 1) (.lit 0)) (.e (.var 1) (.e (.var 2) (.e (.var 3) (.e (.var 4) (.e (.var 5) (.e (.var 6) .nil)))))))))
  (.fin (.e (.lit 0) (.e (.var 1) (.e (.var 2) (.e (.var 3) (.e (.var 4) (.e (.var 5) (.e (.var 6) .nil)))))))))
theorem v61 : vcOf ⟨c61, []⟩ 250 Try.f61 s61 = t61 := by kernel_rfl

/-- (loop.example/g01242/impl.limbs).isZero -/
noncomputable def c63 : Cfg := ⟨Try.prog, []⟩
def t63 : VC :=
 (.bind (.ite (.and (.eq (.var 0) (.lit 0)) (.and (.eq (.var 1) (.lit 0)) (.and (.eq (.var 2) (.lit 0)) (.and (.eq (.var 3) (.lit 0)) (.and (.eq (.var 4) (.lit 0)) (.eq (.var 5) (.lit 0))))))) (.lit 1) (.lit 0))
 (.fin (.e (.var 6) .nil)))
theorem v63 : vcOf ⟨c63, []⟩ 250 Try.f63 s63 = t63 := by kernel_rfl

/-- loop.example/g01242/impl.NegWide -/
noncomputable def c25 : Cfg := ⟨Try.prog, [(21, s21), (61, s61)]⟩
def t25 : VC :=
 (.call 21 (.e (.var 0) (.e (.var 1) (.e (.var 2) (.e (.var 3) (.e (.var 4) (.e (.var 5) (.e (.var 6) .nil))))))) 1
 (.ite (.not (.eq (.var 7) (.lit 1)))
  (.fin (.e (.lit 0) (.e (.lit 0) (.e (.lit 0) (.e (.lit 0) (.e (.lit 0) (.e (.lit 0) (.e (.lit 0) (.e (.lit 1) .nil)))))))))
  (.call 61 (.e (.ite (.not (.eq (.var 0) (.lit 1))) (.lit 1) (.lit 0)) (.e (.var 1) (.e (.var 2) (.e (.var 3) (.e (.var 4) (.e (.var 5) (.e (.var 6) .nil))))))) 7
  (.fin (.e (.var 8) (.e (.var 9) (.e (.var 10) (.e (.var 11) (.e (.var 12) (.e (.var 13) (.e (.var 14) (.e (.lit 0) .nil))))))))))))
theorem v25 : vcOf ⟨c25, []⟩ 250 Try.f25 s25 = t25 := by kernel_rfl

/-- (loop.example/g01242/impl.limbs).compare -/
noncomputable def c66 : Cfg := ⟨Try.prog, []⟩
def t66 : VC :=
 (.ite (.and (.eq (.var 0) (.var 6)) (.and (.eq (.var 1) (.var 7)) (.and (.eq (.var 2) (.var 8)) (.and (.eq (.var 3) (.var 9)) (.and (.eq (.var 4) (.var 10)) (.eq (.var 5) (.var 11)))))))
  (.fin (.e (.lit 0) .nil))
  (.ite (.eq (.var 5) (.var 11))
   (.ite (.eq (.var 4) (.var 10))
    (.ite (.eq (.var 3) (.var 9))
     (.ite (.eq (.var 2) (.var 8))
      (.ite (.eq (.var 1) (.var 7))
       (.ite (.eq (.var 0) (.var 6))
        (.fail 16)
        (.ite (.lt (.var 0) (.var 6))
         (.fin (.e (.lit (-1)) .nil))
         (.fin (.e (.lit 1) .nil))))
       (.ite (.lt (.var 1) (.var 7))
        (.fin (.e (.lit (-1)) .nil))
        (.fin (.e (.lit 1) .nil))))
      (.ite (.lt (.var 2) (.var 8))
       (.fin (.e (.lit (-1)) .nil))
       (.fin (.e (.lit 1) .nil))))
     (.ite (.lt (.var 3) (.var 9))
      (.fin (.e (.lit (-1)) .nil))
      (.fin (.e (.lit 1) .nil))))
    (.ite (.lt (.var 4) (.var 10))
     (.fin (.e (.lit (-1)) .nil))
     (.fin (.e (.lit 1) .nil))))
   (.ite (.lt (.var 5) (.var 11))
    (.fin (.e (.lit (-1)) .nil))
    (.fin (.e (.lit 1) .nil)))))
theorem v66 : vcOf ⟨c66, []⟩ 250 Try.f66 s66 = t66 := by kernel_rfl

/-- loop.example/g01242/spec.l01Cmp -/
noncomputable def c95 : Cfg := ⟨Try.prog, []⟩
def t95 : VC :=
 (.ite (.lt (.var 5) (.var 11))
  (.fin (.e (.lit (-1)) .nil))
  (.ite (.lt (.var 11) (.var 5))
   (.fin (.e (.lit 1) .nil))
   (.ite (.lt (.var 4) (.var 10))
    (.fin (.e (.lit (-1)) .nil))
    (.ite (.lt (.var 10) (.var 4))
     (.fin (.e (.lit 1) .nil))
     (.ite (.lt (.var 3) (.var 9))
      (.fin (.e (.lit (-1)) .nil))
      (.ite (.lt (.var 9) (.var 3))
       (.fin (.e (.lit 1) .nil))
       (.ite (.lt (.var 2) (.var 8))
        (.fin (.e (.lit (-1)) .nil))
        (.ite (.lt (.var 8) (.var 2))
         (.fin (.e (.lit 1) .nil))
         (.ite (.lt (.var 1) (.var 7))
          (.fin (.e (.lit (-1)) .nil))
          (.ite (.lt (.var 7) (.var 1))
           (.fin (.e (.lit 1) .nil))
           (.ite (.lt (.var 0) (.var 6))
            (.fin (.e (.lit (-1)) .nil))
            (.ite (.lt (.var 6) (.var 0))
             (.fin (.e (.lit 1) .nil))
             (.fin (.e (.lit 0) .nil))))))))))))))
theorem v95 : vcOf ⟨c95, []⟩ 250 Try.f95 s95 = t95 := by kernel_rfl

/-- loop.example/g01242/spec.l01Compare -/
noncomputable def c79 : Cfg := ⟨Try.prog, [(95, s95)]⟩
def t79 : VC :=
 (.ite (.eq (.var 0) (.lit 1))
  (.ite (.not (.eq (.var 7) (.lit 1)))
   (.fin (.e (.lit (-1)) .nil))
   (.call 95 (.e (.var 8) (.e (.var 9) (.e (.var 10) (.e (.var 11) (.e (.var 12) (.e (.var 13) (.e (.var 1) (.e (.var 2) (.e (.var 3) (.e (.var 4) (.e (.var 5) (.e (.var 6) .nil)))))))))))) 1
   (.fin (.e (.var 14) .nil))))
  (.ite (.eq (.var 7) (.lit 1))
   (.fin (.e (.lit 1) .nil))
   (.call 95 (.e (.var 1) (.e (.var 2) (.e (.var 3) (.e (.var 4) (.e (.var 5) (.e (.var 6) (.e (.var 8) (.e (.var 9) (.e (.var 10) (.e (.var 11) (.e (.var 12) (.e (.var 13) .nil)))))))))))) 1
   (.fin (.e (.var 14) .nil)))))
theorem v79 : vcOf ⟨c79, []⟩ 250 Try.f79 s79 = t79 := by kernel_rfl

/-- loop.example/g01242/spec.CompareWides -/
noncomputable def c37 : Cfg := ⟨Try.prog, [(68, s68), (79, s79)]⟩
def t37 : VC :=
 (.call 68 (.e (.var 0) (.e (.var 1) (.e (.var 2) (.e (.var 3) (.e (.var 4) (.e (.var 5) (.e (.var 6) .nil))))))) 1
 (.ite (.eq (.var 14) (.lit 1))
  (.call 68 (.e (.var 7) (.e (.var 8) (.e (.var 9) (.e (.var 10) (.e (.var 11) (.e (.var 12) (.e (.var 13) .nil))))))) 1
  (.ite (.not (.eq (.var 15) (.lit 1)))
   (.fin (.e (.lit 0) (.e (.lit 1) .nil)))
   (.call 79 (.e (.var 0) (.e (.var 1) (.e (.var 2) (.e (.var 3) (.e (.var 4) (.e (.var 5) (.e (.var 6) (.e (.var 7) (.e (.var 8) (.e (.var 9) (.e (.var 10) (.e (.var 11) (.e (.var 12) (.e (.var 13) .nil)))))))))))))) 1
   (.fin (.e (.var 16) (.e (.lit 0) .nil))))))
  (.fin (.e (.lit 0) (.e (.lit 1) .nil)))))
theorem v37 : vcOf ⟨c37, []⟩ 250 Try.f37 s37 = t37 := by kernel_rfl

/-- loop.example/g01242/impl.CompareWides -/
noncomputable def c23 : Cfg := ⟨Try.prog, [(21, s21), (66, s66)]⟩
def t23 : VC :=
 (.call 21 (.e (.var 0) (.e (.var 1) (.e (.var 2) (.e (.var 3) (.e (.var 4) (.e (.var 5) (.e (.var 6) .nil))))))) 1
 (.ite (.eq (.var 14) (.lit 1))
  (.call 21 (.e (.var 7) (.e (.var 8) (.e (.var 9) (.e (.var 10) (.e (.var 11) (.e (.var 12) (.e (.var 13) .nil))))))) 1
  (.ite (.not (.eq (.var 15) (.lit 1)))
   (.fin (.e (.lit 0) (.e (.lit 1) .nil)))
   (.ite (.not (.beq (.eq (.var 0) (.lit 1)) (.eq (.var 7) (.lit 1))))
    (.ite (.eq (.var 0) (.lit 1))
     (.fin (.e (.lit (-1)) (.e (.lit 0) .nil)))
     (.fin (.e (.lit 1) (.e (.lit 0) .nil))))
    (.call 66 (.e (.var 1) (.e (.var 2) (.e (.var 3) (.e (.var 4) (.e (.var 5) (.e (.var 6) (.e (.var 8) (.e (.var 9) (.e (.var 10) (.e (.var 11) (.e (.var 12) (.e (.var 13) .nil)))))))))))) 1
    (.ite (.eq (.var 0) (.lit 1))
     (.bind (.wrap .i64 (.sub (.lit 0) (.var 16)))
     (.fin (.e (.var 17) (.e (.lit 0) .nil))))
     (.fin (.e (.var 16) (.e (.lit 0) .nil))))))))
  (.fin (.e (.lit 0) (.e (.lit 1) .nil)))))
theorem v23 : vcOf ⟨c23, []⟩ 250 Try.f23 s23 = t23 := by kernel_rfl

/-- loop.example/g01242/spec.l01Narrow -/
noncomputable def c88 : Cfg := ⟨Try.prog, []⟩
def t88 : VC :=
 (.ite (.not (.eq (.var 3) (.lit 0)))
  (.fin (.e (.lit 0) (.e (.lit 0) .nil)))
  (.ite (.not (.eq (.var 4) (.lit 0)))
   (.fin (.e (.lit 0) (.e (.lit 0) .nil)))
   (.ite (.not (.eq (.var 5) (.lit 0)))
    (.fin (.e (.lit 0) (.e (.lit 0) .nil)))
    (.ite (.not (.eq (.var 6) (.lit 0)))
     (.fin (.e (.lit 0) (.e (.lit 0) .nil)))
     (.bind (.add (.mul (.var 2) (.lit 4294967296)) (.var 1))
     (.ite (.eq (.var 0) (.lit 1))
      (.bind (.wrap .i64 (.wrap .u64 (.sub (.lit 0) (.var 7))))
      (.fin (.e (.var 8) (.e (.ite (.le (.var 7) (.lit 9223372036854775808)) (.lit 1) (.lit 0)) .nil))))
      (.bind (.wrap .i64 (.var 7))
      (.fin (.e (.var 8) (.e (.ite (.lt (.var 7) (.lit 9223372036854775808)) (.lit 1) (.lit 0)) .nil))))))))))
theorem v88 : vcOf ⟨c88, []⟩ 250 Try.f88 s88 = t88 := by kernel_rfl

/-- loop.example/g01242/spec.NarrowOf -/
noncomputable def c50 : Cfg := ⟨Try.prog, [(68, s68), (88, s88)]⟩
def t50 : VC :=
 (.call 68 (.e (.var 0) (.e (.var 1) (.e (.var 2) (.e (.var 3) (.e (.var 4) (.e (.var 5) (.e (.var 6) .nil))))))) 1
 (.ite (.not (.eq (.var 7) (.lit 1)))
  (.fin (.e (.lit 0) (.e (.lit 1) .nil)))
  (.call 88 (.e (.var 0) (.e (.var 1) (.e (.var 2) (.e (.var 3) (.e (.var 4) (.e (.var 5) (.e (.var 6) .nil))))))) 2
  (.ite (.not (.eq (.var 9) (.lit 1)))
   (.fin (.e (.lit 0) (.e (.lit 2) .nil)))
   (.fin (.e (.var 8) (.e (.lit 0) .nil)))))))
theorem v50 : vcOf ⟨c50, []⟩ 250 Try.f50 s50 = t50 := by kernel_rfl

/-- loop.example/g01242/impl.NarrowOf -/
noncomputable def c32 : Cfg := ⟨Try.prog, [(21, s21), (33, s33)]⟩
def t32 : VC :=
 (.call 21 (.e (.var 0) (.e (.var 1) (.e (.var 2) (.e (.var 3) (.e (.var 4) (.e (.var 5) (.e (.var 6) .nil))))))) 1
 (.ite (.not (.eq (.var 7) (.lit 1)))
  (.fin (.e (.lit 0) (.e (.lit 1) .nil)))
  (.bind (.bits .or .u64 (.mul (.var 2) (.lit 4294967296)) (.var 1))
  (.bind (.wrap .i64 (.var 8))
  (.ite (.eq (.var 0) (.lit 1))
   (.bind (.wrap .i64 (.sub (.lit 0) (.var 9)))
   (.call 33 (.e (.var 10) .nil) 7
   (.ite (.not (.and (.beq (.eq (.var 11) (.lit 1)) (.eq (.var 0) (.lit 1))) (.and (.eq (.var 12) (.var 1)) (.and (.eq (.var 13) (.var 2)) (.and (.eq (.var 14) (.var 3)) (.and (.eq (.var 15) (.var 4)) (.and (.eq (.var 16) (.var 5)) (.eq (.var 17) (.var 6)))))))))
    (.fin (.e (.lit 0) (.e (.lit 2) .nil)))
    (.fin (.e (.var 10) (.e (.lit 0) .nil))))))
   (.call 33 (.e (.var 9) .nil) 7
   (.ite (.not (.and (.beq (.eq (.var 10) (.lit 1)) (.eq (.var 0) (.lit 1))) (.and (.eq (.var 11) (.var 1)) (.and (.eq (.var 12) (.var 2)) (.and (.eq (.var 13) (.var 3)) (.and (.eq (.var 14) (.var 4)) (.and (.eq (.var 15) (.var 5)) (.eq (.var 16) (.var 6)))))))))
    (.fin (.e (.lit 0) (.e (.lit 2) .nil)))
    (.fin (.e (.var 9) (.e (.lit 0) .nil))))))))))
theorem v32 : vcOf ⟨c32, []⟩ 250 Try.f32 s32 = t32 := by kernel_rfl

/-- loop.example/g01242/laws.FnExactCompareWides -/
noncomputable def c11 : Cfg := ⟨Try.prog, [(47, s47), (37, s37), (23, s23)]⟩
def t11 : VC :=
 (.call 47 (.e (.var 0) (.e (.var 1) (.e (.var 2) (.e (.var 3) (.e (.var 4) (.e (.var 5) (.e (.var 6) .nil))))))) 7
 (.call 47 (.e (.var 7) (.e (.var 8) (.e (.var 9) (.e (.var 10) (.e (.var 11) (.e (.var 12) (.e (.var 13) .nil))))))) 7
 (.call 37 (.e (.var 14) (.e (.var 15) (.e (.var 16) (.e (.var 17) (.e (.var 18) (.e (.var 19) (.e (.var 20) (.e (.var 21) (.e (.var 22) (.e (.var 23) (.e (.var 24) (.e (.var 25) (.e (.var 26) (.e (.var 27) .nil)))))))))))))) 2
 (.call 47 (.e (.var 0) (.e (.var 1) (.e (.var 2) (.e (.var 3) (.e (.var 4) (.e (.var 5) (.e (.var 6) .nil))))))) 7
 (.call 47 (.e (.var 7) (.e (.var 8) (.e (.var 9) (.e (.var 10) (.e (.var 11) (.e (.var 12) (.e (.var 13) .nil))))))) 7
 (.call 23 (.e (.var 30) (.e (.var 31) (.e (.var 32) (.e (.var 33) (.e (.var 34) (.e (.var 35) (.e (.var 36) (.e (.var 37) (.e (.var 38) (.e (.var 39) (.e (.var 40) (.e (.var 41) (.e (.var 42) (.e (.var 43) .nil)))))))))))))) 2
 (.ite (.eq (.var 44) (.var 28))
  (.ite (.not (.eq (.var 45) (.var 29)))
   (.fin (.e (.lit 0) .nil))
   (.fin (.e (.lit 1) .nil)))
  (.fin (.e (.lit 0) .nil)))))))))
theorem v11 : vcOf ⟨c11, []⟩ 250 Try.f11 s11 = t11 := by kernel_rfl

/-- loop.example/g01242/laws.FnExactNarrowOf -/
noncomputable def c8 : Cfg := ⟨Try.prog, [(47, s47), (50, s50), (32, s32)]⟩
def t8 : VC :=
 (.call 47 (.e (.var 0) (.e (.var 1) (.e (.var 2) (.e (.var 3) (.e (.var 4) (.e (.var 5) (.e (.var 6) .nil))))))) 7
 (.call 50 (.e (.var 7) (.e (.var 8) (.e (.var 9) (.e (.var 10) (.e (.var 11) (.e (.var 12) (.e (.var 13) .nil))))))) 2
 (.call 47 (.e (.var 0) (.e (.var 1) (.e (.var 2) (.e (.var 3) (.e (.var 4) (.e (.var 5) (.e (.var 6) .nil))))))) 7
 (.call 32 (.e (.var 16) (.e (.var 17) (.e (.var 18) (.e (.var 19) (.e (.var 20) (.e (.var 21) (.e (.var 22) .nil))))))) 2
 (.ite (.eq (.var 23) (.var 14))
  (.ite (.not (.eq (.var 24) (.var 15)))
   (.fin (.e (.lit 0) .nil))
   (.fin (.e (.lit 1) .nil)))
  (.fin (.e (.lit 0) .nil)))))))
theorem v8 : vcOf ⟨c8, []⟩ 250 Try.f8 s8 = t8 := by kernel_rfl

end Go.Proofs.Ytppbanmlifikpaa.Sx
