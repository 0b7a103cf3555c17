/-
  Signatures of functions: how their arguments and results are taken apart into numbers. Written by a program of mine.
  What the symbolic executor asks of these functions, written out by a program of mine, and that it asks just this.
  What the symbolic executor asks of these functions, written out by a program of mine, and that it asks just this.
  What the symbolic executor asks of these functions, written out by a program of mine, and that it asks just this.
  What the symbolic executor asks of these functions, written out by a program of mine, and that it asks just this.
  What the symbolic executor asks of these functions, written out by a program of mine, and that it asks just this.
  What the symbolic executor asks of these functions, written out by a program of mine, and that it asks just this.
-/
import Derived.Test.YtmlmdicdblgcfaaX2
import Derived.Test.YtmlmdicdblgcfaaVA
import Derived.Test.YtmlmdicdblgcfaaChecked
import Derived.KernelRfl
namespace Go.Proofs.Ytmlmdicdblgcfaa.Sx
open Go Go.RowKit
def s69 : Sig := ⟨[.ptr [.i .u32, .i .u32, .i .u32, .i .u32, .i .u32, .i .u32], .ptr [.i .u32, .i .u32, .i .u32, .i .u32, .i .u32, .i .u32]], [(true, [.i .u32, .i .u32, .i .u32, .i .u32, .i .u32, .i .u32]), (true, [.i .u32, .i .u32, .i .u32, .i .u32, .i .u32, .i .u32])], false⟩
def s60 : Sig := ⟨[.val true [.b, .i .u32, .i .u32, .i .u32, .i .u32, .i .u32, .i .u32], .val true [.b, .i .u32, .i .u32, .i .u32, .i .u32, .i .u32, .i .u32]], [(true, [.b, .i .u32, .i .u32, .i .u32, .i .u32, .i .u32, .i .u32]), (true, [.b, .i .u32, .i .u32, .i .u32, .i .u32, .i .u32, .i .u32])], false⟩
def s23 : Sig := ⟨[.val true [.b, .i .u32, .i .u32, .i .u32, .i .u32, .i .u32, .i .u32], .val true [.b, .i .u32, .i .u32, .i .u32, .i .u32, .i .u32, .i .u32]], [(true, [.b, .i .u32, .i .u32, .i .u32, .i .u32, .i .u32, .i .u32]), (true, [.b, .i .u32, .i .u32, .i .u32, .i .u32, .i .u32, .i .u32]), (false, [.i .i64])], true⟩
def s59 : Sig := ⟨[.ptr [.b, .i .u32, .i .u32, .i .u32, .i .u32, .i .u32, .i .u32]], [(false, [.i .i64])], true⟩
def s74 : Sig := ⟨[.val true [.b, .i .u32, .i .u32, .i .u32, .i .u32, .i .u32, .i .u32], .val true [.b, .i .u32, .i .u32, .i .u32, .i .u32, .i .u32, .i .u32]], [(true, [.b, .i .u32, .i .u32, .i .u32, .i .u32, .i .u32, .i .u32]), (false, [.i .i64])], true⟩
def s63 : Sig := ⟨[.val true [.b, .i .u32, .i .u32, .i .u32, .i .u32, .i .u32, .i .u32], .val true [.b, .i .u32, .i .u32, .i .u32, .i .u32, .i .u32, .i .u32]], [(true, [.b, .i .u32, .i .u32, .i .u32, .i .u32, .i .u32, .i .u32]), (false, [.i .i64])], true⟩
def s72 : Sig := ⟨[.val true [.i .u32, .i .u32, .i .u32, .i .u32, .i .u32, .i .u32], .val false [.i .u32]], [(true, [.i .u32, .i .u32, .i .u32, .i .u32, .i .u32, .i .u32]), (false, [.i .u32])], false⟩
def s99 : Sig := ⟨[.val false [.i .u32]], [(false, [.n .i64 0 32])], true⟩
def s100 : Sig := ⟨[.val true [.i .u32, .i .u32, .i .u32, .i .u32, .i .u32, .i .u32], .val false [.i .i64]], [(true, [.i .u32, .i .u32, .i .u32, .i .u32, .i .u32, .i .u32, .i .u32])], false⟩
def s101 : Sig := ⟨[.val true [.i .u32, .i .u32, .i .u32, .i .u32, .i .u32, .i .u32, .i .u32], .val true [.i .u32, .i .u32, .i .u32, .i .u32, .i .u32, .i .u32], .val false [.i .i64], .val false [.i .i64]], [(false, [.i .u32])], false⟩
def s102 : Sig := ⟨[.val true [.i .u32, .i .u32, .i .u32, .i .u32, .i .u32, .i .u32, .i .u32], .val true [.i .u32, .i .u32, .i .u32, .i .u32, .i .u32, .i .u32], .val false [.i .u64], .val false [.i .i64], .val false [.i .i64]], [(true, [.i .u32, .i .u32, .i .u32, .i .u32, .i .u32, .i .u32, .i .u32]), (false, [.b])], false⟩
def s103 : Sig := ⟨[.val true [.i .u32, .i .u32, .i .u32, .i .u32, .i .u32, .i .u32, .i .u32], .val true [.i .u32, .i .u32, .i .u32, .i .u32, .i .u32, .i .u32], .val false [.i .i64], .val false [.i .i64]], [(true, [.i .u32, .i .u32, .i .u32, .i .u32, .i .u32, .i .u32, .i .u32])], false⟩
def s92 : Sig := ⟨[.val true [.i .u32, .i .u32, .i .u32, .i .u32, .i .u32, .i .u32], .val true [.i .u32, .i .u32, .i .u32, .i .u32, .i .u32, .i .u32]], [(true, [.i .u32, .i .u32, .i .u32, .i .u32, .i .u32, .i .u32]), (true, [.i .u32, .i .u32, .i .u32, .i .u32, .i .u32, .i .u32])], false⟩
def s61 : Sig := ⟨[.val true [.i .u32, .i .u32, .i .u32, .i .u32, .i .u32, .i .u32], .val true [.i .u32, .i .u32, .i .u32, .i .u32, .i .u32, .i .u32]], [(true, [.i .u32, .i .u32, .i .u32, .i .u32, .i .u32, .i .u32]), (true, [.i .u32, .i .u32, .i .u32, .i .u32, .i .u32, .i .u32])], false⟩
def s24 : Sig := ⟨[.val true [.b, .i .u32, .i .u32, .i .u32, .i .u32, .i .u32, .i .u32], .val true [.b, .i .u32, .i .u32, .i .u32, .i .u32, .i .u32, .i .u32]], [(true, [.b, .i .u32, .i .u32, .i .u32, .i .u32, .i .u32, .i .u32]), (true, [.b, .i .u32, .i .u32, .i .u32, .i .u32, .i .u32, .i .u32]), (false, [.i .i64])], true⟩
def sigsV4 : List (Nat × Sig) := [(69, s69), (60, s60), (23, s23), (59, s59), (74, s74), (63, s63), (72, s72), (99, s99), (100, s100), (101, s101), (102, s102), (103, s103), (92, s92), (61, s61), (24, s24)]

end Go.Proofs.Ytmlmdicdblgcfaa.Sx

namespace Go.Proofs.Ytmlmdicdblgcfaa.Sx
open Go Go.RowKit
/-- loop.example/g01242/spec.l01DivMag -/
noncomputable def c69 : Cfg := ⟨Try.prog, [(94, s94), (93, s93), (90, s90)]⟩
def iv69 : List Iv := [⟨0, 4294967295⟩, ⟨0, 4294967295⟩, ⟨0, 4294967295⟩, ⟨0, 4294967295⟩, ⟨0, 4294967295⟩, ⟨0, 4294967295⟩, ⟨0, 4294967295⟩, ⟨0, 4294967295⟩, ⟨0, 4294967295⟩, ⟨0, 4294967295⟩, ⟨0, 4294967295⟩, ⟨0, 4294967295⟩]
def t69 : VC :=
 (.call 94 (.e (.var 0) (.e (.var 1) (.e (.var 2) (.e (.var 3) (.e (.var 4) (.e (.var 5) .nil)))))) 1
 (.loop 0 [(.sub (.var 12) (.lit 1)), (.lit 0), (.lit 0), (.lit 0), (.lit 0), (.lit 0), (.lit 0), (.lit 0), (.lit 0), (.lit 0), (.lit 0), (.lit 0), (.lit 0)] [⟨(-1), 191⟩, ⟨0, 4294967295⟩, ⟨0, 4294967295⟩, ⟨0, 4294967295⟩, ⟨0, 4294967295⟩, ⟨0, 4294967295⟩, ⟨0, 4294967295⟩, ⟨0, 4294967295⟩, ⟨0, 4294967295⟩, ⟨0, 4294967295⟩, ⟨0, 4294967295⟩, ⟨0, 4294967295⟩, ⟨0, 4294967295⟩]
  (.ite (.le (.lit 0) (.var 13))
   (.bind (.div (.var 25) (.lit 2147483648))
   (.bind (.bits .or .u32 (.wrap .u32 (.mul (.var 25) (.lit 2))) (.div (.var 24) (.lit 2147483648)))
   (.bind (.bits .or .u32 (.wrap .u32 (.mul (.var 24) (.lit 2))) (.div (.var 23) (.lit 2147483648)))
   (.bind (.bits .or .u32 (.wrap .u32 (.mul (.var 23) (.lit 2))) (.div (.var 22) (.lit 2147483648)))
   (.bind (.bits .or .u32 (.wrap .u32 (.mul (.var 22) (.lit 2))) (.div (.var 21) (.lit 2147483648)))
   (.bind (.bits .or .u32 (.wrap .u32 (.mul (.var 21) (.lit 2))) (.div (.var 20) (.lit 2147483648)))
   (.bind (.ite (.eq (.div (.var 13) (.lit 32)) (.lit 0)) (.var 0) (.ite (.eq (.div (.var 13) (.lit 32)) (.lit 1)) (.var 1) (.ite (.eq (.div (.var 13) (.lit 32)) (.lit 2)) (.var 2) (.ite (.eq (.div (.var 13) (.lit 32)) (.lit 3)) (.var 3) (.ite (.eq (.div (.var 13) (.lit 32)) (.lit 4)) (.var 4) (.var 5))))))
   (.bind (.bits .or .u32 (.wrap .u32 (.mul (.var 20) (.lit 2))) (.bits .and .u32 (.div (.ite (.eq (.div (.var 13) (.lit 32)) (.lit 0)) (.var 0) (.ite (.eq (.div (.var 13) (.lit 32)) (.lit 1)) (.var 1) (.ite (.eq (.div (.var 13) (.lit 32)) (.lit 2)) (.var 2) (.ite (.eq (.div (.var 13) (.lit 32)) (.lit 3)) (.var 3) (.ite (.eq (.div (.var 13) (.lit 32)) (.lit 4)) (.var 4) (.var 5)))))) (.pow2 (.mod (.var 13) (.lit 32)))) (.lit 1)))
   (.ite (.not (.eq (.var 26) (.lit 1)))
    (.call 93 (.e (.var 33) (.e (.var 31) (.e (.var 30) (.e (.var 29) (.e (.var 28) (.e (.var 27) (.e (.var 6) (.e (.var 7) (.e (.var 8) (.e (.var 9) (.e (.var 10) (.e (.var 11) .nil)))))))))))) 1
    (.ite (.le (.lit 0) (.var 34))
     (.call 90 (.e (.var 33) (.e (.var 31) (.e (.var 30) (.e (.var 29) (.e (.var 28) (.e (.var 27) (.e (.var 6) (.e (.var 7) (.e (.var 8) (.e (.var 9) (.e (.var 10) (.e (.var 11) .nil)))))))))))) 6
     (.bind (.ite (.eq (.div (.var 13) (.lit 32)) (.lit 0)) (.var 14) (.ite (.eq (.div (.var 13) (.lit 32)) (.lit 1)) (.var 15) (.ite (.eq (.div (.var 13) (.lit 32)) (.lit 2)) (.var 16) (.ite (.eq (.div (.var 13) (.lit 32)) (.lit 3)) (.var 17) (.ite (.eq (.div (.var 13) (.lit 32)) (.lit 4)) (.var 18) (.var 19))))))
     (.bind (.ite (.eq (.div (.var 13) (.lit 32)) (.lit 0)) (.bits .or .u32 (.var 41) (.mul (.lit 1) (.pow2 (.mod (.var 13) (.lit 32))))) (.var 14))
     (.bind (.ite (.eq (.div (.var 13) (.lit 32)) (.lit 1)) (.bits .or .u32 (.var 41) (.mul (.lit 1) (.pow2 (.mod (.var 13) (.lit 32))))) (.var 15))
     (.bind (.ite (.eq (.div (.var 13) (.lit 32)) (.lit 2)) (.bits .or .u32 (.var 41) (.mul (.lit 1) (.pow2 (.mod (.var 13) (.lit 32))))) (.var 16))
     (.bind (.ite (.eq (.div (.var 13) (.lit 32)) (.lit 3)) (.bits .or .u32 (.var 41) (.mul (.lit 1) (.pow2 (.mod (.var 13) (.lit 32))))) (.var 17))
     (.bind (.ite (.eq (.div (.var 13) (.lit 32)) (.lit 4)) (.bits .or .u32 (.var 41) (.mul (.lit 1) (.pow2 (.mod (.var 13) (.lit 32))))) (.var 18))
     (.bind (.ite (.eq (.div (.var 13) (.lit 32)) (.lit 5)) (.bits .or .u32 (.var 41) (.mul (.lit 1) (.pow2 (.mod (.var 13) (.lit 32))))) (.var 19))
     (.again 0 13 [⟨(-1), 191⟩, ⟨0, 4294967295⟩, ⟨0, 4294967295⟩, ⟨0, 4294967295⟩, ⟨0, 4294967295⟩, ⟨0, 4294967295⟩, ⟨0, 4294967295⟩, ⟨0, 4294967295⟩, ⟨0, 4294967295⟩, ⟨0, 4294967295⟩, ⟨0, 4294967295⟩, ⟨0, 4294967295⟩, ⟨0, 4294967295⟩] [(.sub (.var 13) (.lit 1)), (.var 42), (.var 43), (.var 44), (.var 45), (.var 46), (.var 47), (.var 35), (.var 36), (.var 37), (.var 38), (.var 39), (.var 40)])))))))))
     (.again 0 13 [⟨(-1), 191⟩, ⟨0, 4294967295⟩, ⟨0, 4294967295⟩, ⟨0, 4294967295⟩, ⟨0, 4294967295⟩, ⟨0, 4294967295⟩, ⟨0, 4294967295⟩, ⟨0, 4294967295⟩, ⟨0, 4294967295⟩, ⟨0, 4294967295⟩, ⟨0, 4294967295⟩, ⟨0, 4294967295⟩, ⟨0, 4294967295⟩] [(.sub (.var 13) (.lit 1)), (.var 14), (.var 15), (.var 16), (.var 17), (.var 18), (.var 19), (.var 33), (.var 31), (.var 30), (.var 29), (.var 28), (.var 27)])))
    (.call 90 (.e (.var 33) (.e (.var 31) (.e (.var 30) (.e (.var 29) (.e (.var 28) (.e (.var 27) (.e (.var 6) (.e (.var 7) (.e (.var 8) (.e (.var 9) (.e (.var 10) (.e (.var 11) .nil)))))))))))) 6
    (.bind (.ite (.eq (.div (.var 13) (.lit 32)) (.lit 0)) (.var 14) (.ite (.eq (.div (.var 13) (.lit 32)) (.lit 1)) (.var 15) (.ite (.eq (.div (.var 13) (.lit 32)) (.lit 2)) (.var 16) (.ite (.eq (.div (.var 13) (.lit 32)) (.lit 3)) (.var 17) (.ite (.eq (.div (.var 13) (.lit 32)) (.lit 4)) (.var 18) (.var 19))))))
    (.bind (.ite (.eq (.div (.var 13) (.lit 32)) (.lit 0)) (.bits .or .u32 (.var 40) (.mul (.lit 1) (.pow2 (.mod (.var 13) (.lit 32))))) (.var 14))
    (.bind (.ite (.eq (.div (.var 13) (.lit 32)) (.lit 1)) (.bits .or .u32 (.var 40) (.mul (.lit 1) (.pow2 (.mod (.var 13) (.lit 32))))) (.var 15))
    (.bind (.ite (.eq (.div (.var 13) (.lit 32)) (.lit 2)) (.bits .or .u32 (.var 40) (.mul (.lit 1) (.pow2 (.mod (.var 13) (.lit 32))))) (.var 16))
    (.bind (.ite (.eq (.div (.var 13) (.lit 32)) (.lit 3)) (.bits .or .u32 (.var 40) (.mul (.lit 1) (.pow2 (.mod (.var 13) (.lit 32))))) (.var 17))
    (.bind (.ite (.eq (.div (.var 13) (.lit 32)) (.lit 4)) (.bits .or .u32 (.var 40) (.mul (.lit 1) (.pow2 (.mod (.var 13) (.lit 32))))) (.var 18))
    (.bind (.ite (.eq (.div (.var 13) (.lit 32)) (.lit 5)) (.bits .or .u32 (.var 40) (.mul (.lit 1) (.pow2 (.mod (.var 13) (.lit 32))))) (.var 19))
    (.again 0 13 [⟨(-1), 191⟩, ⟨0, 4294967295⟩, ⟨0, 4294967295⟩, ⟨0, 4294967295⟩, ⟨0, 4294967295⟩, ⟨0, 4294967295⟩, ⟨0, 4294967295⟩, ⟨0, 4294967295⟩, ⟨0, 4294967295⟩, ⟨0, 4294967295⟩, ⟨0, 4294967295⟩, ⟨0, 4294967295⟩, ⟨0, 4294967295⟩] [(.sub (.var 13) (.lit 1)), (.var 41), (.var 42), (.var 43), (.var 44), (.var 45), (.var 46), (.var 34), (.var 35), (.var 36), (.var 37), (.var 38), (.var 39)]))))))))))))))))))
   (.fin (.e (.var 14) (.e (.var 15) (.e (.var 16) (.e (.var 17) (.e (.var 18) (.e (.var 19) (.e (.var 20) (.e (.var 21) (.e (.var 22) (.e (.var 23) (.e (.var 24) (.e (.var 25) .nil))))))))))))))))
theorem v69 : vcOfI ⟨c69, [(4, ⟨0, [8], [4, 5], [16, 17, 20, 21, 22, 9, 10, 23, 24, 27, 28, 29, 30, 31, 32, 33, 34, 35, 36, 37, 38, 25, 26, 39, 40, 41, 42, 43, 44, 45, 46, 47, 48, 49, 50, 51, 52, 53, 54, 55, 56, 57, 58, 59, 60, 61, 62, 63, 64, 65, 66, 67, 68, 69, 70, 71, 72, 73, 18, 19], [⟨(-1), 191⟩, ⟨0, 4294967295⟩, ⟨0, 4294967295⟩, ⟨0, 4294967295⟩, ⟨0, 4294967295⟩, ⟨0, 4294967295⟩, ⟨0, 4294967295⟩, ⟨0, 4294967295⟩, ⟨0, 4294967295⟩, ⟨0, 4294967295⟩, ⟨0, 4294967295⟩, ⟨0, 4294967295⟩, ⟨0, 4294967295⟩]⟩)]⟩ iv69 250 Try.f69 s69 = t69 := by kernel_rfl
set_option linter.unusedVariables false in
def p69 (T : Tab) (I : Nat → List Int → List Int → Prop) (M : Nat → List Int → List Int → Nat) (pre : Nat → List Int → Prop) (post : List Int → Prop) (v0 v1 v2 v3 v4 v5 v6 v7 v8 v9 v10 v11 : Int) : Prop :=
 ∀ v12 : Int, [v12] = T.out 94 1 [v0, v1, v2, v3, v4, v5] →
 ((allHas [⟨(-1), 191⟩, ⟨0, 4294967295⟩, ⟨0, 4294967295⟩, ⟨0, 4294967295⟩, ⟨0, 4294967295⟩, ⟨0, 4294967295⟩, ⟨0, 4294967295⟩, ⟨0, 4294967295⟩, ⟨0, 4294967295⟩, ⟨0, 4294967295⟩, ⟨0, 4294967295⟩, ⟨0, 4294967295⟩, ⟨0, 4294967295⟩] [(v12 - 1), 0, 0, 0, 0, 0, 0, 0, 0, 0, 0, 0, 0] ∧ I 0 [v0, v1, v2, v3, v4, v5, v6, v7, v8, v9, v10, v11, v12] [(v12 - 1), 0, 0, 0, 0, 0, 0, 0, 0, 0, 0, 0, 0]) ∧ ∀ v13 v14 v15 v16 v17 v18 v19 v20 v21 v22 v23 v24 v25 : Int, allHas [⟨(-1), 191⟩, ⟨0, 4294967295⟩, ⟨0, 4294967295⟩, ⟨0, 4294967295⟩, ⟨0, 4294967295⟩, ⟨0, 4294967295⟩, ⟨0, 4294967295⟩, ⟨0, 4294967295⟩, ⟨0, 4294967295⟩, ⟨0, 4294967295⟩, ⟨0, 4294967295⟩, ⟨0, 4294967295⟩, ⟨0, 4294967295⟩] [v13, v14, v15, v16, v17, v18, v19, v20, v21, v22, v23, v24, v25] → I 0 [v0, v1, v2, v3, v4, v5, v6, v7, v8, v9, v10, v11, v12] [v13, v14, v15, v16, v17, v18, v19, v20, v21, v22, v23, v24, v25] →
  ((decide ((0 : Int) ≤ v13) = true →
   ∀ v26 : Int, v26 = (v25 / 2147483648) →
   ∀ v27 : Int, v27 = (bitsInt .or .u32 (IntKind.wrap .u32 (v25 * 2)) (v24 / 2147483648)) →
   ∀ v28 : Int, v28 = (bitsInt .or .u32 (IntKind.wrap .u32 (v24 * 2)) (v23 / 2147483648)) →
   ∀ v29 : Int, v29 = (bitsInt .or .u32 (IntKind.wrap .u32 (v23 * 2)) (v22 / 2147483648)) →
   ∀ v30 : Int, v30 = (bitsInt .or .u32 (IntKind.wrap .u32 (v22 * 2)) (v21 / 2147483648)) →
   ∀ v31 : Int, v31 = (bitsInt .or .u32 (IntKind.wrap .u32 (v21 * 2)) (v20 / 2147483648)) →
   ∀ v32 : Int, v32 = (if decide (((v13 / 32) : Int) = 0) = true then v0 else (if decide (((v13 / 32) : Int) = 1) = true then v1 else (if decide (((v13 / 32) : Int) = 2) = true then v2 else (if decide (((v13 / 32) : Int) = 3) = true then v3 else (if decide (((v13 / 32) : Int) = 4) = true then v4 else v5))))) →
   ∀ v33 : Int, v33 = (bitsInt .or .u32 (IntKind.wrap .u32 (v20 * 2)) (bitsInt .and .u32 ((if decide (((v13 / 32) : Int) = 0) = true then v0 else (if decide (((v13 / 32) : Int) = 1) = true then v1 else (if decide (((v13 / 32) : Int) = 2) = true then v2 else (if decide (((v13 / 32) : Int) = 3) = true then v3 else (if decide (((v13 / 32) : Int) = 4) = true then v4 else v5))))) / (2 ^ ((v13 % 32) : Int).toNat)) 1)) →
   (((!decide ((v26 : Int) = 1)) = true →
    ∀ v34 : Int, [v34] = T.out 93 1 [v33, v31, v30, v29, v28, v27, v6, v7, v8, v9, v10, v11] →
    ((decide ((0 : Int) ≤ v34) = true →
     ∀ v35 v36 v37 v38 v39 v40 : Int, [v35, v36, v37, v38, v39, v40] = T.out 90 6 [v33, v31, v30, v29, v28, v27, v6, v7, v8, v9, v10, v11] →
     ∀ v41 : Int, v41 = (if decide (((v13 / 32) : Int) = 0) = true then v14 else (if decide (((v13 / 32) : Int) = 1) = true then v15 else (if decide (((v13 / 32) : Int) = 2) = true then v16 else (if decide (((v13 / 32) : Int) = 3) = true then v17 else (if decide (((v13 / 32) : Int) = 4) = true then v18 else v19))))) →
     ∀ v42 : Int, v42 = (if decide (((v13 / 32) : Int) = 0) = true then (bitsInt .or .u32 v41 (1 * (2 ^ ((v13 % 32) : Int).toNat))) else v14) →
     ∀ v43 : Int, v43 = (if decide (((v13 / 32) : Int) = 1) = true then (bitsInt .or .u32 v41 (1 * (2 ^ ((v13 % 32) : Int).toNat))) else v15) →
     ∀ v44 : Int, v44 = (if decide (((v13 / 32) : Int) = 2) = true then (bitsInt .or .u32 v41 (1 * (2 ^ ((v13 % 32) : Int).toNat))) else v16) →
     ∀ v45 : Int, v45 = (if decide (((v13 / 32) : Int) = 3) = true then (bitsInt .or .u32 v41 (1 * (2 ^ ((v13 % 32) : Int).toNat))) else v17) →
     ∀ v46 : Int, v46 = (if decide (((v13 / 32) : Int) = 4) = true then (bitsInt .or .u32 v41 (1 * (2 ^ ((v13 % 32) : Int).toNat))) else v18) →
     ∀ v47 : Int, v47 = (if decide (((v13 / 32) : Int) = 5) = true then (bitsInt .or .u32 v41 (1 * (2 ^ ((v13 % 32) : Int).toNat))) else v19) →
     (allHas [⟨(-1), 191⟩, ⟨0, 4294967295⟩, ⟨0, 4294967295⟩, ⟨0, 4294967295⟩, ⟨0, 4294967295⟩, ⟨0, 4294967295⟩, ⟨0, 4294967295⟩, ⟨0, 4294967295⟩, ⟨0, 4294967295⟩, ⟨0, 4294967295⟩, ⟨0, 4294967295⟩, ⟨0, 4294967295⟩, ⟨0, 4294967295⟩] [(v13 - 1), v42, v43, v44, v45, v46, v47, v35, v36, v37, v38, v39, v40] ∧ I 0 [v0, v1, v2, v3, v4, v5, v6, v7, v8, v9, v10, v11, v12] [(v13 - 1), v42, v43, v44, v45, v46, v47, v35, v36, v37, v38, v39, v40] ∧ M 0 [v0, v1, v2, v3, v4, v5, v6, v7, v8, v9, v10, v11, v12] [(v13 - 1), v42, v43, v44, v45, v46, v47, v35, v36, v37, v38, v39, v40] < M 0 [v0, v1, v2, v3, v4, v5, v6, v7, v8, v9, v10, v11, v12] [v13, v14, v15, v16, v17, v18, v19, v20, v21, v22, v23, v24, v25])) ∧ (decide ((0 : Int) ≤ v34) = false →
     (allHas [⟨(-1), 191⟩, ⟨0, 4294967295⟩, ⟨0, 4294967295⟩, ⟨0, 4294967295⟩, ⟨0, 4294967295⟩, ⟨0, 4294967295⟩, ⟨0, 4294967295⟩, ⟨0, 4294967295⟩, ⟨0, 4294967295⟩, ⟨0, 4294967295⟩, ⟨0, 4294967295⟩, ⟨0, 4294967295⟩, ⟨0, 4294967295⟩] [(v13 - 1), v14, v15, v16, v17, v18, v19, v33, v31, v30, v29, v28, v27] ∧ I 0 [v0, v1, v2, v3, v4, v5, v6, v7, v8, v9, v10, v11, v12] [(v13 - 1), v14, v15, v16, v17, v18, v19, v33, v31, v30, v29, v28, v27] ∧ M 0 [v0, v1, v2, v3, v4, v5, v6, v7, v8, v9, v10, v11, v12] [(v13 - 1), v14, v15, v16, v17, v18, v19, v33, v31, v30, v29, v28, v27] < M 0 [v0, v1, v2, v3, v4, v5, v6, v7, v8, v9, v10, v11, v12] [v13, v14, v15, v16, v17, v18, v19, v20, v21, v22, v23, v24, v25])))) ∧ ((!decide ((v26 : Int) = 1)) = false →
    ∀ v34 v35 v36 v37 v38 v39 : Int, [v34, v35, v36, v37, v38, v39] = T.out 90 6 [v33, v31, v30, v29, v28, v27, v6, v7, v8, v9, v10, v11] →
    ∀ v40 : Int, v40 = (if decide (((v13 / 32) : Int) = 0) = true then v14 else (if decide (((v13 / 32) : Int) = 1) = true then v15 else (if decide (((v13 / 32) : Int) = 2) = true then v16 else (if decide (((v13 / 32) : Int) = 3) = true then v17 else (if decide (((v13 / 32) : Int) = 4) = true then v18 else v19))))) →
    ∀ v41 : Int, v41 = (if decide (((v13 / 32) : Int) = 0) = true then (bitsInt .or .u32 v40 (1 * (2 ^ ((v13 % 32) : Int).toNat))) else v14) →
    ∀ v42 : Int, v42 = (if decide (((v13 / 32) : Int) = 1) = true then (bitsInt .or .u32 v40 (1 * (2 ^ ((v13 % 32) : Int).toNat))) else v15) →
    ∀ v43 : Int, v43 = (if decide (((v13 / 32) : Int) = 2) = true then (bitsInt .or .u32 v40 (1 * (2 ^ ((v13 % 32) : Int).toNat))) else v16) →
    ∀ v44 : Int, v44 = (if decide (((v13 / 32) : Int) = 3) = true then (bitsInt .or .u32 v40 (1 * (2 ^ ((v13 % 32) : Int).toNat))) else v17) →
    ∀ v45 : Int, v45 = (if decide (((v13 / 32) : Int) = 4) = true then (bitsInt .or .u32 v40 (1 * (2 ^ ((v13 % 32) : Int).toNat))) else v18) →
    ∀ v46 : Int, v46 = (if decide (((v13 / 32) : Int) = 5) = true then (bitsInt .or .u32 v40 (1 * (2 ^ ((v13 % 32) : Int).toNat))) else v19) →
    (allHas [⟨(-1), 191⟩, ⟨0, 4294967295⟩, ⟨0, 4294967295⟩, ⟨0, 4294967295⟩, ⟨0, 4294967295⟩, ⟨0, 4294967295⟩, ⟨0, 4294967295⟩, ⟨0, 4294967295⟩, ⟨0, 4294967295⟩, ⟨0, 4294967295⟩, ⟨0, 4294967295⟩, ⟨0, 4294967295⟩, ⟨0, 4294967295⟩] [(v13 - 1), v41, v42, v43, v44, v45, v46, v34, v35, v36, v37, v38, v39] ∧ I 0 [v0, v1, v2, v3, v4, v5, v6, v7, v8, v9, v10, v11, v12] [(v13 - 1), v41, v42, v43, v44, v45, v46, v34, v35, v36, v37, v38, v39] ∧ M 0 [v0, v1, v2, v3, v4, v5, v6, v7, v8, v9, v10, v11, v12] [(v13 - 1), v41, v42, v43, v44, v45, v46, v34, v35, v36, v37, v38, v39] < M 0 [v0, v1, v2, v3, v4, v5, v6, v7, v8, v9, v10, v11, v12] [v13, v14, v15, v16, v17, v18, v19, v20, v21, v22, v23, v24, v25])))) ∧ (decide ((0 : Int) ≤ v13) = false →
   post [v14, v15, v16, v17, v18, v19, v20, v21, v22, v23, v24, v25])))
theorem q69 (T : Tab) (I : Nat → List Int → List Int → Prop) (M : Nat → List Int → List Int → Nat) (pre : Nat → List Int → Prop) (post : List Int → Prop) (v0 v1 v2 v3 v4 v5 v6 v7 v8 v9 v10 v11 : Int) : t69.plain T (presL pre I M) post ⟨[v0, v1, v2, v3, v4, v5, v6, v7, v8, v9, v10, v11], []⟩ = p69 T I M pre post v0 v1 v2 v3 v4 v5 v6 v7 v8 v9 v10 v11 := by kernel_rfl
theorem k69 (T : Tab) (I : Nat → List Int → List Int → Prop) (M : Nat → List Int → List Int → Nat) (pre : Nat → List Int → Prop) (hs : SubSig T c69.sigs) (ht : Tot pre c69.sigs) (hg : T.sig 69 = some s69) (hC : CtAll Try.prog T.fns (pres pre) c69.sigs) (hi : ∀ xs, pre 69 xs → allHas iv69 xs)
    (h : ∀ (v0 v1 v2 v3 v4 v5 v6 v7 v8 v9 v10 v11 : Int), (0 ≤ v0 ∧ v0 ≤ 4294967295) → (0 ≤ v1 ∧ v1 ≤ 4294967295) → (0 ≤ v2 ∧ v2 ≤ 4294967295) → (0 ≤ v3 ∧ v3 ≤ 4294967295) → (0 ≤ v4 ∧ v4 ≤ 4294967295) → (0 ≤ v5 ∧ v5 ≤ 4294967295) → (0 ≤ v6 ∧ v6 ≤ 4294967295) → (0 ≤ v7 ∧ v7 ≤ 4294967295) → (0 ≤ v8 ∧ v8 ≤ 4294967295) → (0 ≤ v9 ∧ v9 ≤ 4294967295) → (0 ≤ v10 ∧ v10 ≤ 4294967295) → (0 ≤ v11 ∧ v11 ≤ 4294967295) → pre 69 [v0, v1, v2, v3, v4, v5, v6, v7, v8, v9, v10, v11] → p69 T I M pre (fun ys => ys = T.fn 69 [v0, v1, v2, v3, v4, v5, v6, v7, v8, v9, v10, v11]) v0 v1 v2 v3 v4 v5 v6 v7 v8 v9 v10 v11) : CT Try.prog T.fns (pres pre) 69 s69 :=
  T.ctq (F := ⟨c69, [(4, ⟨0, [8], [4, 5], [16, 17, 20, 21, 22, 9, 10, 23, 24, 27, 28, 29, 30, 31, 32, 33, 34, 35, 36, 37, 38, 25, 26, 39, 40, 41, 42, 43, 44, 45, 46, 47, 48, 49, 50, 51, 52, 53, 54, 55, 56, 57, 58, 59, 60, 61, 62, 63, 64, 65, 66, 67, 68, 69, 70, 71, 72, 73, 18, 19], [⟨(-1), 191⟩, ⟨0, 4294967295⟩, ⟨0, 4294967295⟩, ⟨0, 4294967295⟩, ⟨0, 4294967295⟩, ⟨0, 4294967295⟩, ⟨0, 4294967295⟩, ⟨0, 4294967295⟩, ⟨0, 4294967295⟩, ⟨0, 4294967295⟩, ⟨0, 4294967295⟩, ⟨0, 4294967295⟩, ⟨0, 4294967295⟩]⟩)]⟩) (fuel := 250) v69 Try.checked.mixed hs ht hg hC Try.func69 I M (fun xs _ h => hi xs h) fun xs hx hp => by
    match xs, hx, hp with
    | [v0, v1, v2, v3, v4, v5, v6, v7, v8, v9, v10, v11], hx, hp => rw [q69]; exact h v0 v1 v2 v3 v4 v5 v6 v7 v8 v9 v10 v11 hx.1 hx.2.1 hx.2.2.1 hx.2.2.2.1 hx.2.2.2.2.1 hx.2.2.2.2.2.1 hx.2.2.2.2.2.2.1 hx.2.2.2.2.2.2.2.1 hx.2.2.2.2.2.2.2.2.1 hx.2.2.2.2.2.2.2.2.2.1 hx.2.2.2.2.2.2.2.2.2.2.1 hx.2.2.2.2.2.2.2.2.2.2.2.1 hp

/-- loop.example/g01242/spec.l01Div -/
noncomputable def c60 : Cfg := ⟨Try.prog, [(69, s69), (68, s68), (91, s91), (90, s90), (70, s70)]⟩
def iv60 : List Iv := [⟨0, 1⟩, ⟨0, 4294967295⟩, ⟨0, 4294967295⟩, ⟨0, 4294967295⟩, ⟨0, 4294967295⟩, ⟨0, 4294967295⟩, ⟨0, 4294967295⟩, ⟨0, 1⟩, ⟨0, 4294967295⟩, ⟨0, 4294967295⟩, ⟨0, 4294967295⟩, ⟨0, 4294967295⟩, ⟨0, 4294967295⟩, ⟨0, 4294967295⟩]
def t60 : VC :=
 (.need [(.pre 69 (.e (.var 1) (.e (.var 2) (.e (.var 3) (.e (.var 4) (.e (.var 5) (.e (.var 6) (.e (.var 8) (.e (.var 9) (.e (.var 10) (.e (.var 11) (.e (.var 12) (.e (.var 13) .nil)))))))))))))]
 (.call 69 (.e (.var 1) (.e (.var 2) (.e (.var 3) (.e (.var 4) (.e (.var 5) (.e (.var 6) (.e (.var 8) (.e (.var 9) (.e (.var 10) (.e (.var 11) (.e (.var 12) (.e (.var 13) .nil)))))))))))) 12
 (.ite (.not (.beq (.eq (.var 0) (.lit 1)) (.eq (.var 7) (.lit 1))))
  (.call 68 (.e (.var 20) (.e (.var 21) (.e (.var 22) (.e (.var 23) (.e (.var 24) (.e (.var 25) .nil)))))) 1
  (.ite (.not (.eq (.var 26) (.lit 1)))
   (.call 91 (.e (.var 14) (.e (.var 15) (.e (.var 16) (.e (.var 17) (.e (.var 18) (.e (.var 19) (.e (.lit 1) (.e (.lit 0) (.e (.lit 0) (.e (.lit 0) (.e (.lit 0) (.e (.lit 0) .nil)))))))))))) 7
   (.call 90 (.e (.var 8) (.e (.var 9) (.e (.var 10) (.e (.var 11) (.e (.var 12) (.e (.var 13) (.e (.var 20) (.e (.var 21) (.e (.var 22) (.e (.var 23) (.e (.var 24) (.e (.var 25) .nil)))))))))))) 6
   (.call 70 (.e (.ite (.not (.beq (.eq (.var 0) (.lit 1)) (.eq (.var 7) (.lit 1)))) (.lit 1) (.lit 0)) (.e (.var 27) (.e (.var 28) (.e (.var 29) (.e (.var 30) (.e (.var 31) (.e (.var 32) .nil))))))) 7
   (.call 70 (.e (.var 7) (.e (.var 34) (.e (.var 35) (.e (.var 36) (.e (.var 37) (.e (.var 38) (.e (.var 39) .nil))))))) 7
   (.fin (.e (.var 40) (.e (.var 41) (.e (.var 42) (.e (.var 43) (.e (.var 44) (.e (.var 45) (.e (.var 46) (.e (.var 47) (.e (.var 48) (.e (.var 49) (.e (.var 50) (.e (.var 51) (.e (.var 52) (.e (.var 53) .nil)))))))))))))))))))
   (.call 70 (.e (.ite (.not (.beq (.eq (.var 0) (.lit 1)) (.eq (.var 7) (.lit 1)))) (.lit 1) (.lit 0)) (.e (.var 14) (.e (.var 15) (.e (.var 16) (.e (.var 17) (.e (.var 18) (.e (.var 19) .nil))))))) 7
   (.call 70 (.e (.var 7) (.e (.var 20) (.e (.var 21) (.e (.var 22) (.e (.var 23) (.e (.var 24) (.e (.var 25) .nil))))))) 7
   (.fin (.e (.var 27) (.e (.var 28) (.e (.var 29) (.e (.var 30) (.e (.var 31) (.e (.var 32) (.e (.var 33) (.e (.var 34) (.e (.var 35) (.e (.var 36) (.e (.var 37) (.e (.var 38) (.e (.var 39) (.e (.var 40) .nil)))))))))))))))))))
  (.call 70 (.e (.ite (.not (.beq (.eq (.var 0) (.lit 1)) (.eq (.var 7) (.lit 1)))) (.lit 1) (.lit 0)) (.e (.var 14) (.e (.var 15) (.e (.var 16) (.e (.var 17) (.e (.var 18) (.e (.var 19) .nil))))))) 7
  (.call 70 (.e (.var 7) (.e (.var 20) (.e (.var 21) (.e (.var 22) (.e (.var 23) (.e (.var 24) (.e (.var 25) .nil))))))) 7
  (.fin (.e (.var 26) (.e (.var 27) (.e (.var 28) (.e (.var 29) (.e (.var 30) (.e (.var 31) (.e (.var 32) (.e (.var 33) (.e (.var 34) (.e (.var 35) (.e (.var 36) (.e (.var 37) (.e (.var 38) (.e (.var 39) .nil))))))))))))))))))))
theorem v60 : vcOfI ⟨c60, []⟩ iv60 250 Try.f60 s60 = t60 := by kernel_rfl
set_option linter.unusedVariables false in
def p60 (T : Tab) (I : Nat → List Int → List Int → Prop) (M : Nat → List Int → List Int → Nat) (pre : Nat → List Int → Prop) (post : List Int → Prop) (v0 v1 v2 v3 v4 v5 v6 v7 v8 v9 v10 v11 v12 v13 : Int) : Prop :=
 ((pre 69 [v1, v2, v3, v4, v5, v6, v8, v9, v10, v11, v12, v13]) ∧ ((pre 69 [v1, v2, v3, v4, v5, v6, v8, v9, v10, v11, v12, v13]) →
 ∀ v14 v15 v16 v17 v18 v19 v20 v21 v22 v23 v24 v25 : Int, [v14, v15, v16, v17, v18, v19, v20, v21, v22, v23, v24, v25] = T.out 69 12 [v1, v2, v3, v4, v5, v6, v8, v9, v10, v11, v12, v13] →
 (((!(decide ((v0 : Int) = 1) == decide ((v7 : Int) = 1))) = true →
  ∀ v26 : Int, [v26] = T.out 68 1 [v20, v21, v22, v23, v24, v25] →
  (((!decide ((v26 : Int) = 1)) = true →
   ∀ v27 v28 v29 v30 v31 v32 v33 : Int, [v27, v28, v29, v30, v31, v32, v33] = T.out 91 7 [v14, v15, v16, v17, v18, v19, 1, 0, 0, 0, 0, 0] →
   ∀ v34 v35 v36 v37 v38 v39 : Int, [v34, v35, v36, v37, v38, v39] = T.out 90 6 [v8, v9, v10, v11, v12, v13, v20, v21, v22, v23, v24, v25] →
   ∀ v40 v41 v42 v43 v44 v45 v46 : Int, [v40, v41, v42, v43, v44, v45, v46] = T.out 70 7 [(if (!(decide ((v0 : Int) = 1) == decide ((v7 : Int) = 1))) = true then 1 else 0), v27, v28, v29, v30, v31, v32] →
   ∀ v47 v48 v49 v50 v51 v52 v53 : Int, [v47, v48, v49, v50, v51, v52, v53] = T.out 70 7 [v7, v34, v35, v36, v37, v38, v39] →
   post [v40, v41, v42, v43, v44, v45, v46, v47, v48, v49, v50, v51, v52, v53]) ∧ ((!decide ((v26 : Int) = 1)) = false →
   ∀ v27 v28 v29 v30 v31 v32 v33 : Int, [v27, v28, v29, v30, v31, v32, v33] = T.out 70 7 [(if (!(decide ((v0 : Int) = 1) == decide ((v7 : Int) = 1))) = true then 1 else 0), v14, v15, v16, v17, v18, v19] →
   ∀ v34 v35 v36 v37 v38 v39 v40 : Int, [v34, v35, v36, v37, v38, v39, v40] = T.out 70 7 [v7, v20, v21, v22, v23, v24, v25] →
   post [v27, v28, v29, v30, v31, v32, v33, v34, v35, v36, v37, v38, v39, v40]))) ∧ ((!(decide ((v0 : Int) = 1) == decide ((v7 : Int) = 1))) = false →
  ∀ v26 v27 v28 v29 v30 v31 v32 : Int, [v26, v27, v28, v29, v30, v31, v32] = T.out 70 7 [(if (!(decide ((v0 : Int) = 1) == decide ((v7 : Int) = 1))) = true then 1 else 0), v14, v15, v16, v17, v18, v19] →
  ∀ v33 v34 v35 v36 v37 v38 v39 : Int, [v33, v34, v35, v36, v37, v38, v39] = T.out 70 7 [v7, v20, v21, v22, v23, v24, v25] →
  post [v26, v27, v28, v29, v30, v31, v32, v33, v34, v35, v36, v37, v38, v39]))))
theorem q60 (T : Tab) (I : Nat → List Int → List Int → Prop) (M : Nat → List Int → List Int → Nat) (pre : Nat → List Int → Prop) (post : List Int → Prop) (v0 v1 v2 v3 v4 v5 v6 v7 v8 v9 v10 v11 v12 v13 : Int) : t60.plain T (presL pre I M) post ⟨[v0, v1, v2, v3, v4, v5, v6, v7, v8, v9, v10, v11, v12, v13], []⟩ = p60 T I M pre post v0 v1 v2 v3 v4 v5 v6 v7 v8 v9 v10 v11 v12 v13 := by kernel_rfl
theorem k60 (T : Tab) (I : Nat → List Int → List Int → Prop) (M : Nat → List Int → List Int → Nat) (pre : Nat → List Int → Prop) (hs : SubSig T c60.sigs) (ht : Tot pre c60.sigs) (hg : T.sig 60 = some s60) (hC : CtAll Try.prog T.fns (pres pre) c60.sigs) (hi : ∀ xs, pre 60 xs → allHas iv60 xs)
    (h : ∀ (v0 v1 v2 v3 v4 v5 v6 v7 v8 v9 v10 v11 v12 v13 : Int), (0 ≤ v0 ∧ v0 ≤ 1) → (0 ≤ v1 ∧ v1 ≤ 4294967295) → (0 ≤ v2 ∧ v2 ≤ 4294967295) → (0 ≤ v3 ∧ v3 ≤ 4294967295) → (0 ≤ v4 ∧ v4 ≤ 4294967295) → (0 ≤ v5 ∧ v5 ≤ 4294967295) → (0 ≤ v6 ∧ v6 ≤ 4294967295) → (0 ≤ v7 ∧ v7 ≤ 1) → (0 ≤ v8 ∧ v8 ≤ 4294967295) → (0 ≤ v9 ∧ v9 ≤ 4294967295) → (0 ≤ v10 ∧ v10 ≤ 4294967295) → (0 ≤ v11 ∧ v11 ≤ 4294967295) → (0 ≤ v12 ∧ v12 ≤ 4294967295) → (0 ≤ v13 ∧ v13 ≤ 4294967295) → pre 60 [v0, v1, v2, v3, v4, v5, v6, v7, v8, v9, v10, v11, v12, v13] → p60 T I M pre (fun ys => ys = T.fn 60 [v0, v1, v2, v3, v4, v5, v6, v7, v8, v9, v10, v11, v12, v13]) v0 v1 v2 v3 v4 v5 v6 v7 v8 v9 v10 v11 v12 v13) : CT Try.prog T.fns (pres pre) 60 s60 :=
  T.ctq (F := ⟨c60, []⟩) (fuel := 250) v60 Try.checked.mixed hs ht hg hC Try.func60 I M (fun xs _ h => hi xs h) fun xs hx hp => by
    match xs, hx, hp with
    | [v0, v1, v2, v3, v4, v5, v6, v7, v8, v9, v10, v11, v12, v13], hx, hp => rw [q60]; exact h v0 v1 v2 v3 v4 v5 v6 v7 v8 v9 v10 v11 v12 v13 hx.1 hx.2.1 hx.2.2.1 hx.2.2.2.1 hx.2.2.2.2.1 hx.2.2.2.2.2.1 hx.2.2.2.2.2.2.1 hx.2.2.2.2.2.2.2.1 hx.2.2.2.2.2.2.2.2.1 hx.2.2.2.2.2.2.2.2.2.1 hx.2.2.2.2.2.2.2.2.2.2.1 hx.2.2.2.2.2.2.2.2.2.2.2.1 hx.2.2.2.2.2.2.2.2.2.2.2.2.1 hx.2.2.2.2.2.2.2.2.2.2.2.2.2.1 hp

/-- loop.example/g01242/spec.DivWides -/
noncomputable def c23 : Cfg := ⟨Try.prog, [(41, s41), (59, s59), (60, s60)]⟩
def iv23 : List Iv := [⟨0, 1⟩, ⟨0, 4294967295⟩, ⟨0, 4294967295⟩, ⟨0, 4294967295⟩, ⟨0, 4294967295⟩, ⟨0, 4294967295⟩, ⟨0, 4294967295⟩, ⟨0, 1⟩, ⟨0, 4294967295⟩, ⟨0, 4294967295⟩, ⟨0, 4294967295⟩, ⟨0, 4294967295⟩, ⟨0, 4294967295⟩, ⟨0, 4294967295⟩]
def t23 : VC :=
 (.call 41 (.e (.var 0) (.e (.var 1) (.e (.var 2) (.e (.var 3) (.e (.var 4) (.e (.var 5) (.e (.var 6) .nil))))))) 1
 (.ite (.eq (.var 14) (.lit 1))
  (.call 41 (.e (.var 7) (.e (.var 8) (.e (.var 9) (.e (.var 10) (.e (.var 11) (.e (.var 12) (.e (.var 13) .nil))))))) 1
  (.ite (.not (.eq (.var 15) (.lit 1)))
   (.fin (.e (.lit 0) (.e (.lit 0) (.e (.lit 0) (.e (.lit 0) (.e (.lit 0) (.e (.lit 0) (.e (.lit 0) (.e (.lit 0) (.e (.lit 0) (.e (.lit 0) (.e (.lit 0) (.e (.lit 0) (.e (.lit 0) (.e (.lit 0) (.e (.lit 1) .nil))))))))))))))))
   (.call 59 (.e (.var 7) (.e (.var 8) (.e (.var 9) (.e (.var 10) (.e (.var 11) (.e (.var 12) (.e (.var 13) .nil))))))) 1
   (.ite (.eq (.var 16) (.lit 0))
    (.fin (.e (.lit 0) (.e (.lit 0) (.e (.lit 0) (.e (.lit 0) (.e (.lit 0) (.e (.lit 0) (.e (.lit 0) (.e (.lit 0) (.e (.lit 0) (.e (.lit 0) (.e (.lit 0) (.e (.lit 0) (.e (.lit 0) (.e (.lit 0) (.e (.lit 4) .nil))))))))))))))))
    (.need [(.pre 60 (.e (.var 0) (.e (.var 1) (.e (.var 2) (.e (.var 3) (.e (.var 4) (.e (.var 5) (.e (.var 6) (.e (.var 7) (.e (.var 8) (.e (.var 9) (.e (.var 10) (.e (.var 11) (.e (.var 12) (.e (.var 13) .nil)))))))))))))))]
    (.call 60 (.e (.var 0) (.e (.var 1) (.e (.var 2) (.e (.var 3) (.e (.var 4) (.e (.var 5) (.e (.var 6) (.e (.var 7) (.e (.var 8) (.e (.var 9) (.e (.var 10) (.e (.var 11) (.e (.var 12) (.e (.var 13) .nil)))))))))))))) 14
    (.fin (.e (.var 17) (.e (.var 18) (.e (.var 19) (.e (.var 20) (.e (.var 21) (.e (.var 22) (.e (.var 23) (.e (.var 24) (.e (.var 25) (.e (.var 26) (.e (.var 27) (.e (.var 28) (.e (.var 29) (.e (.var 30) (.e (.lit 0) .nil))))))))))))))))))))))
  (.fin (.e (.lit 0) (.e (.lit 0) (.e (.lit 0) (.e (.lit 0) (.e (.lit 0) (.e (.lit 0) (.e (.lit 0) (.e (.lit 0) (.e (.lit 0) (.e (.lit 0) (.e (.lit 0) (.e (.lit 0) (.e (.lit 0) (.e (.lit 0) (.e (.lit 1) .nil))))))))))))))))))
theorem v23 : vcOfI ⟨c23, []⟩ iv23 250 Try.f23 s23 = t23 := by kernel_rfl
set_option linter.unusedVariables false in
def p23 (T : Tab) (I : Nat → List Int → List Int → Prop) (M : Nat → List Int → List Int → Nat) (pre : Nat → List Int → Prop) (post : List Int → Prop) (v0 v1 v2 v3 v4 v5 v6 v7 v8 v9 v10 v11 v12 v13 : Int) : Prop :=
 ∀ v14 : Int, [v14] = T.out 41 1 [v0, v1, v2, v3, v4, v5, v6] →
 ((decide ((v14 : Int) = 1) = true →
  ∀ v15 : Int, [v15] = T.out 41 1 [v7, v8, v9, v10, v11, v12, v13] →
  (((!decide ((v15 : Int) = 1)) = true →
   post [0, 0, 0, 0, 0, 0, 0, 0, 0, 0, 0, 0, 0, 0, 1]) ∧ ((!decide ((v15 : Int) = 1)) = false →
   ∀ v16 : Int, [v16] = T.out 59 1 [v7, v8, v9, v10, v11, v12, v13] →
   ((decide ((v16 : Int) = 0) = true →
    post [0, 0, 0, 0, 0, 0, 0, 0, 0, 0, 0, 0, 0, 0, 4]) ∧ (decide ((v16 : Int) = 0) = false →
    ((pre 60 [v0, v1, v2, v3, v4, v5, v6, v7, v8, v9, v10, v11, v12, v13]) ∧ ((pre 60 [v0, v1, v2, v3, v4, v5, v6, v7, v8, v9, v10, v11, v12, v13]) →
    ∀ v17 v18 v19 v20 v21 v22 v23 v24 v25 v26 v27 v28 v29 v30 : Int, [v17, v18, v19, v20, v21, v22, v23, v24, v25, v26, v27, v28, v29, v30] = T.out 60 14 [v0, v1, v2, v3, v4, v5, v6, v7, v8, v9, v10, v11, v12, v13] →
    post [v17, v18, v19, v20, v21, v22, v23, v24, v25, v26, v27, v28, v29, v30, 0]))))))) ∧ (decide ((v14 : Int) = 1) = false →
  post [0, 0, 0, 0, 0, 0, 0, 0, 0, 0, 0, 0, 0, 0, 1]))
theorem q23 (T : Tab) (I : Nat → List Int → List Int → Prop) (M : Nat → List Int → List Int → Nat) (pre : Nat → List Int → Prop) (post : List Int → Prop) (v0 v1 v2 v3 v4 v5 v6 v7 v8 v9 v10 v11 v12 v13 : Int) : t23.plain T (presL pre I M) post ⟨[v0, v1, v2, v3, v4, v5, v6, v7, v8, v9, v10, v11, v12, v13], []⟩ = p23 T I M pre post v0 v1 v2 v3 v4 v5 v6 v7 v8 v9 v10 v11 v12 v13 := by kernel_rfl
theorem k23 (T : Tab) (I : Nat → List Int → List Int → Prop) (M : Nat → List Int → List Int → Nat) (pre : Nat → List Int → Prop) (hs : SubSig T c23.sigs) (ht : Tot pre c23.sigs) (hg : T.sig 23 = some s23) (hC : CtAll Try.prog T.fns (pres pre) c23.sigs)
    (h : ∀ (v0 v1 v2 v3 v4 v5 v6 v7 v8 v9 v10 v11 v12 v13 : Int), (0 ≤ v0 ∧ v0 ≤ 1) → (0 ≤ v1 ∧ v1 ≤ 4294967295) → (0 ≤ v2 ∧ v2 ≤ 4294967295) → (0 ≤ v3 ∧ v3 ≤ 4294967295) → (0 ≤ v4 ∧ v4 ≤ 4294967295) → (0 ≤ v5 ∧ v5 ≤ 4294967295) → (0 ≤ v6 ∧ v6 ≤ 4294967295) → (0 ≤ v7 ∧ v7 ≤ 1) → (0 ≤ v8 ∧ v8 ≤ 4294967295) → (0 ≤ v9 ∧ v9 ≤ 4294967295) → (0 ≤ v10 ∧ v10 ≤ 4294967295) → (0 ≤ v11 ∧ v11 ≤ 4294967295) → (0 ≤ v12 ∧ v12 ≤ 4294967295) → (0 ≤ v13 ∧ v13 ≤ 4294967295) → pre 23 [v0, v1, v2, v3, v4, v5, v6, v7, v8, v9, v10, v11, v12, v13] → p23 T I M pre (fun ys => ys = T.fn 23 [v0, v1, v2, v3, v4, v5, v6, v7, v8, v9, v10, v11, v12, v13]) v0 v1 v2 v3 v4 v5 v6 v7 v8 v9 v10 v11 v12 v13) : CT Try.prog T.fns (pres pre) 23 s23 :=
  T.ctq (F := ⟨c23, []⟩) (fuel := 250) v23 Try.checked.mixed hs ht hg hC Try.func23 I M (fun _ h _ => h) fun xs hx hp => by
    match xs, hx, hp with
    | [v0, v1, v2, v3, v4, v5, v6, v7, v8, v9, v10, v11, v12, v13], hx, hp => rw [q23]; exact h v0 v1 v2 v3 v4 v5 v6 v7 v8 v9 v10 v11 v12 v13 hx.1 hx.2.1 hx.2.2.1 hx.2.2.2.1 hx.2.2.2.2.1 hx.2.2.2.2.2.1 hx.2.2.2.2.2.2.1 hx.2.2.2.2.2.2.2.1 hx.2.2.2.2.2.2.2.2.1 hx.2.2.2.2.2.2.2.2.2.1 hx.2.2.2.2.2.2.2.2.2.2.1 hx.2.2.2.2.2.2.2.2.2.2.2.1 hx.2.2.2.2.2.2.2.2.2.2.2.2.1 hx.2.2.2.2.2.2.2.2.2.2.2.2.2.1 hp

end Go.Proofs.Ytmlmdicdblgcfaa.Sx

namespace Go.Proofs.Ytmlmdicdblgcfaa.Sx
open Go Go.RowKit
/-- loop.example/g01242/spec.l01Sign -/
noncomputable def c59 : Cfg := ⟨Try.prog, []⟩
def iv59 : List Iv := [⟨0, 1⟩, ⟨0, 4294967295⟩, ⟨0, 4294967295⟩, ⟨0, 4294967295⟩, ⟨0, 4294967295⟩, ⟨0, 4294967295⟩, ⟨0, 4294967295⟩]
def t59 : VC :=
 (.ite (.eq (.var 0) (.lit 1))
  (.fin (.e (.lit (-1)) .nil))
  (.bind (.ite (.and (.eq (.var 1) (.lit 0)) (.and (.eq (.var 2) (.lit 0)) (.and (.eq (.var 3) (.lit 0)) (.and (.eq (.var 4) (.lit 0)) (.and (.eq (.var 5) (.lit 0)) (.eq (.var 6) (.lit 0))))))) (.lit 1) (.lit 0))
  (.ite (.eq (.var 7) (.lit 1))
   (.fin (.e (.lit 0) .nil))
   (.fin (.e (.lit 1) .nil)))))
theorem v59 : vcOfI ⟨c59, []⟩ iv59 250 Try.f59 s59 = t59 := by kernel_rfl
set_option linter.unusedVariables false in
def p59 (T : Tab) (I : Nat → List Int → List Int → Prop) (M : Nat → List Int → List Int → Nat) (pre : Nat → List Int → Prop) (post : List Int → Prop) (v0 v1 v2 v3 v4 v5 v6 : Int) : Prop :=
 ((decide ((v0 : Int) = 1) = true →
  post [(-1)]) ∧ (decide ((v0 : Int) = 1) = false →
  ∀ v7 : Int, v7 = (if (decide ((v1 : Int) = 0) && (decide ((v2 : Int) = 0) && (decide ((v3 : Int) = 0) && (decide ((v4 : Int) = 0) && (decide ((v5 : Int) = 0) && decide ((v6 : Int) = 0)))))) = true then 1 else 0) →
  ((decide ((v7 : Int) = 1) = true →
   post [0]) ∧ (decide ((v7 : Int) = 1) = false →
   post [1]))))
theorem q59 (T : Tab) (I : Nat → List Int → List Int → Prop) (M : Nat → List Int → List Int → Nat) (pre : Nat → List Int → Prop) (post : List Int → Prop) (v0 v1 v2 v3 v4 v5 v6 : Int) : t59.plain T (presL pre I M) post ⟨[v0, v1, v2, v3, v4, v5, v6], []⟩ = p59 T I M pre post v0 v1 v2 v3 v4 v5 v6 := by kernel_rfl
theorem k59 (T : Tab) (I : Nat → List Int → List Int → Prop) (M : Nat → List Int → List Int → Nat) (pre : Nat → List Int → Prop) (hs : SubSig T c59.sigs) (ht : Tot pre c59.sigs) (hg : T.sig 59 = some s59) (hC : CtAll Try.prog T.fns (pres pre) c59.sigs)
    (h : ∀ (v0 v1 v2 v3 v4 v5 v6 : Int), (0 ≤ v0 ∧ v0 ≤ 1) → (0 ≤ v1 ∧ v1 ≤ 4294967295) → (0 ≤ v2 ∧ v2 ≤ 4294967295) → (0 ≤ v3 ∧ v3 ≤ 4294967295) → (0 ≤ v4 ∧ v4 ≤ 4294967295) → (0 ≤ v5 ∧ v5 ≤ 4294967295) → (0 ≤ v6 ∧ v6 ≤ 4294967295) → pre 59 [v0, v1, v2, v3, v4, v5, v6] → p59 T I M pre (fun ys => ys = T.fn 59 [v0, v1, v2, v3, v4, v5, v6]) v0 v1 v2 v3 v4 v5 v6) : CT Try.prog T.fns (pres pre) 59 s59 :=
  T.ctq (F := ⟨c59, []⟩) (fuel := 250) v59 Try.checked.mixed hs ht hg hC Try.func59 I M (fun _ h _ => h) fun xs hx hp => by
    match xs, hx, hp with
    | [v0, v1, v2, v3, v4, v5, v6], hx, hp => rw [q59]; exact h v0 v1 v2 v3 v4 v5 v6 hx.1 hx.2.1 hx.2.2.1 hx.2.2.2.1 hx.2.2.2.2.1 hx.2.2.2.2.2.1 hx.2.2.2.2.2.2.1 hp

/-- loop.example/g01242/spec.l01Add -/
noncomputable def c74 : Cfg := ⟨Try.prog, [(91, s91), (70, s70), (93, s93), (90, s90)]⟩
def iv74 : List Iv := [⟨0, 1⟩, ⟨0, 4294967295⟩, ⟨0, 4294967295⟩, ⟨0, 4294967295⟩, ⟨0, 4294967295⟩, ⟨0, 4294967295⟩, ⟨0, 4294967295⟩, ⟨0, 1⟩, ⟨0, 4294967295⟩, ⟨0, 4294967295⟩, ⟨0, 4294967295⟩, ⟨0, 4294967295⟩, ⟨0, 4294967295⟩, ⟨0, 4294967295⟩]
def t74 : VC :=
 (.ite (.beq (.eq (.var 0) (.lit 1)) (.eq (.var 7) (.lit 1)))
  (.call 91 (.e (.var 1) (.e (.var 2) (.e (.var 3) (.e (.var 4) (.e (.var 5) (.e (.var 6) (.e (.var 8) (.e (.var 9) (.e (.var 10) (.e (.var 11) (.e (.var 12) (.e (.var 13) .nil)))))))))))) 7
  (.ite (.not (.eq (.var 20) (.lit 1)))
   (.fin (.e (.lit 0) (.e (.lit 0) (.e (.lit 0) (.e (.lit 0) (.e (.lit 0) (.e (.lit 0) (.e (.lit 0) (.e (.lit 3) .nil)))))))))
   (.call 70 (.e (.var 0) (.e (.var 14) (.e (.var 15) (.e (.var 16) (.e (.var 17) (.e (.var 18) (.e (.var 19) .nil))))))) 7
   (.fin (.e (.var 21) (.e (.var 22) (.e (.var 23) (.e (.var 24) (.e (.var 25) (.e (.var 26) (.e (.var 27) (.e (.lit 0) .nil))))))))))))
  (.call 93 (.e (.var 1) (.e (.var 2) (.e (.var 3) (.e (.var 4) (.e (.var 5) (.e (.var 6) (.e (.var 8) (.e (.var 9) (.e (.var 10) (.e (.var 11) (.e (.var 12) (.e (.var 13) .nil)))))))))))) 1
  (.ite (.le (.lit 0) (.var 14))
   (.call 90 (.e (.var 1) (.e (.var 2) (.e (.var 3) (.e (.var 4) (.e (.var 5) (.e (.var 6) (.e (.var 8) (.e (.var 9) (.e (.var 10) (.e (.var 11) (.e (.var 12) (.e (.var 13) .nil)))))))))))) 6
   (.call 70 (.e (.var 0) (.e (.var 15) (.e (.var 16) (.e (.var 17) (.e (.var 18) (.e (.var 19) (.e (.var 20) .nil))))))) 7
   (.fin (.e (.var 21) (.e (.var 22) (.e (.var 23) (.e (.var 24) (.e (.var 25) (.e (.var 26) (.e (.var 27) (.e (.lit 0) .nil)))))))))))
   (.call 90 (.e (.var 8) (.e (.var 9) (.e (.var 10) (.e (.var 11) (.e (.var 12) (.e (.var 13) (.e (.var 1) (.e (.var 2) (.e (.var 3) (.e (.var 4) (.e (.var 5) (.e (.var 6) .nil)))))))))))) 6
   (.call 70 (.e (.var 7) (.e (.var 15) (.e (.var 16) (.e (.var 17) (.e (.var 18) (.e (.var 19) (.e (.var 20) .nil))))))) 7
   (.fin (.e (.var 21) (.e (.var 22) (.e (.var 23) (.e (.var 24) (.e (.var 25) (.e (.var 26) (.e (.var 27) (.e (.lit 0) .nil))))))))))))))
theorem v74 : vcOfI ⟨c74, []⟩ iv74 250 Try.f74 s74 = t74 := by kernel_rfl
set_option linter.unusedVariables false in
def p74 (T : Tab) (I : Nat → List Int → List Int → Prop) (M : Nat → List Int → List Int → Nat) (pre : Nat → List Int → Prop) (post : List Int → Prop) (v0 v1 v2 v3 v4 v5 v6 v7 v8 v9 v10 v11 v12 v13 : Int) : Prop :=
 (((decide ((v0 : Int) = 1) == decide ((v7 : Int) = 1)) = true →
  ∀ v14 v15 v16 v17 v18 v19 v20 : Int, [v14, v15, v16, v17, v18, v19, v20] = T.out 91 7 [v1, v2, v3, v4, v5, v6, v8, v9, v10, v11, v12, v13] →
  (((!decide ((v20 : Int) = 1)) = true →
   post [0, 0, 0, 0, 0, 0, 0, 3]) ∧ ((!decide ((v20 : Int) = 1)) = false →
   ∀ v21 v22 v23 v24 v25 v26 v27 : Int, [v21, v22, v23, v24, v25, v26, v27] = T.out 70 7 [v0, v14, v15, v16, v17, v18, v19] →
   post [v21, v22, v23, v24, v25, v26, v27, 0]))) ∧ ((decide ((v0 : Int) = 1) == decide ((v7 : Int) = 1)) = false →
  ∀ v14 : Int, [v14] = T.out 93 1 [v1, v2, v3, v4, v5, v6, v8, v9, v10, v11, v12, v13] →
  ((decide ((0 : Int) ≤ v14) = true →
   ∀ v15 v16 v17 v18 v19 v20 : Int, [v15, v16, v17, v18, v19, v20] = T.out 90 6 [v1, v2, v3, v4, v5, v6, v8, v9, v10, v11, v12, v13] →
   ∀ v21 v22 v23 v24 v25 v26 v27 : Int, [v21, v22, v23, v24, v25, v26, v27] = T.out 70 7 [v0, v15, v16, v17, v18, v19, v20] →
   post [v21, v22, v23, v24, v25, v26, v27, 0]) ∧ (decide ((0 : Int) ≤ v14) = false →
   ∀ v15 v16 v17 v18 v19 v20 : Int, [v15, v16, v17, v18, v19, v20] = T.out 90 6 [v8, v9, v10, v11, v12, v13, v1, v2, v3, v4, v5, v6] →
   ∀ v21 v22 v23 v24 v25 v26 v27 : Int, [v21, v22, v23, v24, v25, v26, v27] = T.out 70 7 [v7, v15, v16, v17, v18, v19, v20] →
   post [v21, v22, v23, v24, v25, v26, v27, 0]))))
theorem q74 (T : Tab) (I : Nat → List Int → List Int → Prop) (M : Nat → List Int → List Int → Nat) (pre : Nat → List Int → Prop) (post : List Int → Prop) (v0 v1 v2 v3 v4 v5 v6 v7 v8 v9 v10 v11 v12 v13 : Int) : t74.plain T (presL pre I M) post ⟨[v0, v1, v2, v3, v4, v5, v6, v7, v8, v9, v10, v11, v12, v13], []⟩ = p74 T I M pre post v0 v1 v2 v3 v4 v5 v6 v7 v8 v9 v10 v11 v12 v13 := by kernel_rfl
theorem k74 (T : Tab) (I : Nat → List Int → List Int → Prop) (M : Nat → List Int → List Int → Nat) (pre : Nat → List Int → Prop) (hs : SubSig T c74.sigs) (ht : Tot pre c74.sigs) (hg : T.sig 74 = some s74) (hC : CtAll Try.prog T.fns (pres pre) c74.sigs)
    (h : ∀ (v0 v1 v2 v3 v4 v5 v6 v7 v8 v9 v10 v11 v12 v13 : Int), (0 ≤ v0 ∧ v0 ≤ 1) → (0 ≤ v1 ∧ v1 ≤ 4294967295) → (0 ≤ v2 ∧ v2 ≤ 4294967295) → (0 ≤ v3 ∧ v3 ≤ 4294967295) → (0 ≤ v4 ∧ v4 ≤ 4294967295) → (0 ≤ v5 ∧ v5 ≤ 4294967295) → (0 ≤ v6 ∧ v6 ≤ 4294967295) → (0 ≤ v7 ∧ v7 ≤ 1) → (0 ≤ v8 ∧ v8 ≤ 4294967295) → (0 ≤ v9 ∧ v9 ≤ 4294967295) → (0 ≤ v10 ∧ v10 ≤ 4294967295) → (0 ≤ v11 ∧ v11 ≤ 4294967295) → (0 ≤ v12 ∧ v12 ≤ 4294967295) → (0 ≤ v13 ∧ v13 ≤ 4294967295) → pre 74 [v0, v1, v2, v3, v4, v5, v6, v7, v8, v9, v10, v11, v12, v13] → p74 T I M pre (fun ys => ys = T.fn 74 [v0, v1, v2, v3, v4, v5, v6, v7, v8, v9, v10, v11, v12, v13]) v0 v1 v2 v3 v4 v5 v6 v7 v8 v9 v10 v11 v12 v13) : CT Try.prog T.fns (pres pre) 74 s74 :=
  T.ctq (F := ⟨c74, []⟩) (fuel := 250) v74 Try.checked.mixed hs ht hg hC Try.func74 I M (fun _ h _ => h) fun xs hx hp => by
    match xs, hx, hp with
    | [v0, v1, v2, v3, v4, v5, v6, v7, v8, v9, v10, v11, v12, v13], hx, hp => rw [q74]; exact h v0 v1 v2 v3 v4 v5 v6 v7 v8 v9 v10 v11 v12 v13 hx.1 hx.2.1 hx.2.2.1 hx.2.2.2.1 hx.2.2.2.2.1 hx.2.2.2.2.2.1 hx.2.2.2.2.2.2.1 hx.2.2.2.2.2.2.2.1 hx.2.2.2.2.2.2.2.2.1 hx.2.2.2.2.2.2.2.2.2.1 hx.2.2.2.2.2.2.2.2.2.2.1 hx.2.2.2.2.2.2.2.2.2.2.2.1 hx.2.2.2.2.2.2.2.2.2.2.2.2.1 hx.2.2.2.2.2.2.2.2.2.2.2.2.2.1 hp

/-- loop.example/g01242/impl.AddWides -/
noncomputable def c63 : Cfg := ⟨Try.prog, [(44, s44), (77, s77), (46, s46), (56, s56), (55, s55), (58, s58)]⟩
def iv63 : List Iv := [⟨0, 1⟩, ⟨0, 4294967295⟩, ⟨0, 4294967295⟩, ⟨0, 4294967295⟩, ⟨0, 4294967295⟩, ⟨0, 4294967295⟩, ⟨0, 4294967295⟩, ⟨0, 1⟩, ⟨0, 4294967295⟩, ⟨0, 4294967295⟩, ⟨0, 4294967295⟩, ⟨0, 4294967295⟩, ⟨0, 4294967295⟩, ⟨0, 4294967295⟩]
def t63 : VC :=
 (.call 44 (.e (.var 0) (.e (.var 1) (.e (.var 2) (.e (.var 3) (.e (.var 4) (.e (.var 5) (.e (.var 6) .nil))))))) 1
 (.ite (.eq (.var 14) (.lit 1))
  (.call 44 (.e (.var 7) (.e (.var 8) (.e (.var 9) (.e (.var 10) (.e (.var 11) (.e (.var 12) (.e (.var 13) .nil))))))) 1
  (.ite (.not (.eq (.var 15) (.lit 1)))
   (.fin (.e (.lit 0) (.e (.lit 0) (.e (.lit 0) (.e (.lit 0) (.e (.lit 0) (.e (.lit 0) (.e (.lit 0) (.e (.lit 1) .nil)))))))))
   (.ite (.beq (.eq (.var 0) (.lit 1)) (.eq (.var 7) (.lit 1)))
    (.call 77 (.e (.var 1) (.e (.var 2) (.e (.var 3) (.e (.var 4) (.e (.var 5) (.e (.var 6) (.e (.var 8) (.e (.var 9) (.e (.var 10) (.e (.var 11) (.e (.var 12) (.e (.var 13) .nil)))))))))))) 7
    (.call 46 (.e (.var 0) (.e (.var 16) (.e (.var 17) (.e (.var 18) (.e (.var 19) (.e (.var 20) (.e (.var 21) (.e (.var 22) .nil)))))))) 8
    (.fin (.e (.var 23) (.e (.var 24) (.e (.var 25) (.e (.var 26) (.e (.var 27) (.e (.var 28) (.e (.var 29) (.e (.var 30) .nil)))))))))))
    (.call 56 (.e (.var 1) (.e (.var 2) (.e (.var 3) (.e (.var 4) (.e (.var 5) (.e (.var 6) (.e (.var 8) (.e (.var 9) (.e (.var 10) (.e (.var 11) (.e (.var 12) (.e (.var 13) .nil)))))))))))) 1
    (.ite (.le (.lit 0) (.var 16))
     (.call 55 (.e (.var 1) (.e (.var 2) (.e (.var 3) (.e (.var 4) (.e (.var 5) (.e (.var 6) (.e (.var 8) (.e (.var 9) (.e (.var 10) (.e (.var 11) (.e (.var 12) (.e (.var 13) .nil)))))))))))) 6
     (.call 58 (.e (.var 0) (.e (.var 17) (.e (.var 18) (.e (.var 19) (.e (.var 20) (.e (.var 21) (.e (.var 22) .nil))))))) 7
     (.fin (.e (.var 23) (.e (.var 24) (.e (.var 25) (.e (.var 26) (.e (.var 27) (.e (.var 28) (.e (.var 29) (.e (.lit 0) .nil)))))))))))
     (.call 55 (.e (.var 8) (.e (.var 9) (.e (.var 10) (.e (.var 11) (.e (.var 12) (.e (.var 13) (.e (.var 1) (.e (.var 2) (.e (.var 3) (.e (.var 4) (.e (.var 5) (.e (.var 6) .nil)))))))))))) 6
     (.call 58 (.e (.var 7) (.e (.var 17) (.e (.var 18) (.e (.var 19) (.e (.var 20) (.e (.var 21) (.e (.var 22) .nil))))))) 7
     (.fin (.e (.var 23) (.e (.var 24) (.e (.var 25) (.e (.var 26) (.e (.var 27) (.e (.var 28) (.e (.var 29) (.e (.lit 0) .nil))))))))))))))))
  (.fin (.e (.lit 0) (.e (.lit 0) (.e (.lit 0) (.e (.lit 0) (.e (.lit 0) (.e (.lit 0) (.e (.lit 0) (.e (.lit 1) .nil)))))))))))
theorem v63 : vcOfI ⟨c63, []⟩ iv63 250 Try.f63 s63 = t63 := by kernel_rfl
set_option linter.unusedVariables false in
def p63 (T : Tab) (I : Nat → List Int → List Int → Prop) (M : Nat → List Int → List Int → Nat) (pre : Nat → List Int → Prop) (post : List Int → Prop) (v0 v1 v2 v3 v4 v5 v6 v7 v8 v9 v10 v11 v12 v13 : Int) : Prop :=
 ∀ v14 : Int, [v14] = T.out 44 1 [v0, v1, v2, v3, v4, v5, v6] →
 ((decide ((v14 : Int) = 1) = true →
  ∀ v15 : Int, [v15] = T.out 44 1 [v7, v8, v9, v10, v11, v12, v13] →
  (((!decide ((v15 : Int) = 1)) = true →
   post [0, 0, 0, 0, 0, 0, 0, 1]) ∧ ((!decide ((v15 : Int) = 1)) = false →
   (((decide ((v0 : Int) = 1) == decide ((v7 : Int) = 1)) = true →
    ∀ v16 v17 v18 v19 v20 v21 v22 : Int, [v16, v17, v18, v19, v20, v21, v22] = T.out 77 7 [v1, v2, v3, v4, v5, v6, v8, v9, v10, v11, v12, v13] →
    ∀ v23 v24 v25 v26 v27 v28 v29 v30 : Int, [v23, v24, v25, v26, v27, v28, v29, v30] = T.out 46 8 [v0, v16, v17, v18, v19, v20, v21, v22] →
    post [v23, v24, v25, v26, v27, v28, v29, v30]) ∧ ((decide ((v0 : Int) = 1) == decide ((v7 : Int) = 1)) = false →
    ∀ v16 : Int, [v16] = T.out 56 1 [v1, v2, v3, v4, v5, v6, v8, v9, v10, v11, v12, v13] →
    ((decide ((0 : Int) ≤ v16) = true →
     ∀ v17 v18 v19 v20 v21 v22 : Int, [v17, v18, v19, v20, v21, v22] = T.out 55 6 [v1, v2, v3, v4, v5, v6, v8, v9, v10, v11, v12, v13] →
     ∀ v23 v24 v25 v26 v27 v28 v29 : Int, [v23, v24, v25, v26, v27, v28, v29] = T.out 58 7 [v0, v17, v18, v19, v20, v21, v22] →
     post [v23, v24, v25, v26, v27, v28, v29, 0]) ∧ (decide ((0 : Int) ≤ v16) = false →
     ∀ v17 v18 v19 v20 v21 v22 : Int, [v17, v18, v19, v20, v21, v22] = T.out 55 6 [v8, v9, v10, v11, v12, v13, v1, v2, v3, v4, v5, v6] →
     ∀ v23 v24 v25 v26 v27 v28 v29 : Int, [v23, v24, v25, v26, v27, v28, v29] = T.out 58 7 [v7, v17, v18, v19, v20, v21, v22] →
     post [v23, v24, v25, v26, v27, v28, v29, 0]))))))) ∧ (decide ((v14 : Int) = 1) = false →
  post [0, 0, 0, 0, 0, 0, 0, 1]))
theorem q63 (T : Tab) (I : Nat → List Int → List Int → Prop) (M : Nat → List Int → List Int → Nat) (pre : Nat → List Int → Prop) (post : List Int → Prop) (v0 v1 v2 v3 v4 v5 v6 v7 v8 v9 v10 v11 v12 v13 : Int) : t63.plain T (presL pre I M) post ⟨[v0, v1, v2, v3, v4, v5, v6, v7, v8, v9, v10, v11, v12, v13], []⟩ = p63 T I M pre post v0 v1 v2 v3 v4 v5 v6 v7 v8 v9 v10 v11 v12 v13 := by kernel_rfl
theorem k63 (T : Tab) (I : Nat → List Int → List Int → Prop) (M : Nat → List Int → List Int → Nat) (pre : Nat → List Int → Prop) (hs : SubSig T c63.sigs) (ht : Tot pre c63.sigs) (hg : T.sig 63 = some s63) (hC : CtAll Try.prog T.fns (pres pre) c63.sigs)
    (h : ∀ (v0 v1 v2 v3 v4 v5 v6 v7 v8 v9 v10 v11 v12 v13 : Int), (0 ≤ v0 ∧ v0 ≤ 1) → (0 ≤ v1 ∧ v1 ≤ 4294967295) → (0 ≤ v2 ∧ v2 ≤ 4294967295) → (0 ≤ v3 ∧ v3 ≤ 4294967295) → (0 ≤ v4 ∧ v4 ≤ 4294967295) → (0 ≤ v5 ∧ v5 ≤ 4294967295) → (0 ≤ v6 ∧ v6 ≤ 4294967295) → (0 ≤ v7 ∧ v7 ≤ 1) → (0 ≤ v8 ∧ v8 ≤ 4294967295) → (0 ≤ v9 ∧ v9 ≤ 4294967295) → (0 ≤ v10 ∧ v10 ≤ 4294967295) → (0 ≤ v11 ∧ v11 ≤ 4294967295) → (0 ≤ v12 ∧ v12 ≤ 4294967295) → (0 ≤ v13 ∧ v13 ≤ 4294967295) → pre 63 [v0, v1, v2, v3, v4, v5, v6, v7, v8, v9, v10, v11, v12, v13] → p63 T I M pre (fun ys => ys = T.fn 63 [v0, v1, v2, v3, v4, v5, v6, v7, v8, v9, v10, v11, v12, v13]) v0 v1 v2 v3 v4 v5 v6 v7 v8 v9 v10 v11 v12 v13) : CT Try.prog T.fns (pres pre) 63 s63 :=
  T.ctq (F := ⟨c63, []⟩) (fuel := 250) v63 Try.checked.mixed hs ht hg hC Try.func63 I M (fun _ h _ => h) fun xs hx hp => by
    match xs, hx, hp with
    | [v0, v1, v2, v3, v4, v5, v6, v7, v8, v9, v10, v11, v12, v13], hx, hp => rw [q63]; exact h v0 v1 v2 v3 v4 v5 v6 v7 v8 v9 v10 v11 v12 v13 hx.1 hx.2.1 hx.2.2.1 hx.2.2.2.1 hx.2.2.2.2.1 hx.2.2.2.2.2.1 hx.2.2.2.2.2.2.1 hx.2.2.2.2.2.2.2.1 hx.2.2.2.2.2.2.2.2.1 hx.2.2.2.2.2.2.2.2.2.1 hx.2.2.2.2.2.2.2.2.2.2.1 hx.2.2.2.2.2.2.2.2.2.2.2.1 hx.2.2.2.2.2.2.2.2.2.2.2.2.1 hx.2.2.2.2.2.2.2.2.2.2.2.2.2.1 hp

/-- (loop.example/g01242/impl.limbs).divideShort -/
noncomputable def c72 : Cfg := ⟨Try.prog, []⟩
def iv72 : List Iv := [⟨0, 4294967295⟩, ⟨0, 4294967295⟩, ⟨0, 4294967295⟩, ⟨0, 4294967295⟩, ⟨0, 4294967295⟩, ⟨0, 4294967295⟩, ⟨0, 4294967295⟩]
def t72 : VC :=
 (.bind (.bits .or .u64 (.lit 0) (.var 5))
 (.need [(.b (.not (.eq (.var 6) (.lit 0))))]
 (.bind (.wrap .u32 (.div (.var 7) (.var 6)))
 (.need [(.b (.not (.eq (.var 6) (.lit 0))))]
 (.bind (.tmod (.var 7) (.var 6))
 (.bind (.bits .or .u64 (.wrap .u64 (.mul (.var 9) (.lit 4294967296))) (.var 4))
 (.need [(.b (.not (.eq (.var 6) (.lit 0))))]
 (.bind (.wrap .u32 (.div (.var 10) (.var 6)))
 (.need [(.b (.not (.eq (.var 6) (.lit 0))))]
 (.bind (.tmod (.var 10) (.var 6))
 (.bind (.bits .or .u64 (.wrap .u64 (.mul (.var 12) (.lit 4294967296))) (.var 3))
 (.need [(.b (.not (.eq (.var 6) (.lit 0))))]
 (.bind (.wrap .u32 (.div (.var 13) (.var 6)))
 (.need [(.b (.not (.eq (.var 6) (.lit 0))))]
 (.bind (.tmod (.var 13) (.var 6))
 (.bind (.bits .or .u64 (.wrap .u64 (.mul (.var 15) (.lit 4294967296))) (.var 2))
 (.need [(.b (.not (.eq (.var 6) (.lit 0))))]
 (.bind (.wrap .u32 (.div (.var 16) (.var 6)))
 (.need [(.b (.not (.eq (.var 6) (.lit 0))))]
 (.bind (.tmod (.var 16) (.var 6))
 (.bind (.bits .or .u64 (.wrap .u64 (.mul (.var 18) (.lit 4294967296))) (.var 1))
 (.need [(.b (.not (.eq (.var 6) (.lit 0))))]
 (.bind (.wrap .u32 (.div (.var 19) (.var 6)))
 (.need [(.b (.not (.eq (.var 6) (.lit 0))))]
 (.bind (.tmod (.var 19) (.var 6))
 (.bind (.bits .or .u64 (.wrap .u64 (.mul (.var 21) (.lit 4294967296))) (.var 0))
 (.need [(.b (.not (.eq (.var 6) (.lit 0))))]
 (.bind (.wrap .u32 (.div (.var 22) (.var 6)))
 (.need [(.b (.not (.eq (.var 6) (.lit 0))))]
 (.bind (.tmod (.var 22) (.var 6))
 (.bind (.wrap .u32 (.var 24))
 (.fin (.e (.var 23) (.e (.var 20) (.e (.var 17) (.e (.var 14) (.e (.var 11) (.e (.var 8) (.e (.var 25) .nil)))))))))))))))))))))))))))))))))))))))
theorem v72 : vcOfI ⟨c72, []⟩ iv72 250 Try.f72 s72 = t72 := by kernel_rfl
set_option linter.unusedVariables false in
def p72 (T : Tab) (I : Nat → List Int → List Int → Prop) (M : Nat → List Int → List Int → Nat) (pre : Nat → List Int → Prop) (post : List Int → Prop) (v0 v1 v2 v3 v4 v5 v6 : Int) : Prop :=
 ∀ v7 : Int, v7 = (bitsInt .or .u64 0 v5) →
 (((!decide ((v6 : Int) = 0)) = true) ∧ (((!decide ((v6 : Int) = 0)) = true) →
 ∀ v8 : Int, v8 = (IntKind.wrap .u32 (v7 / v6)) →
 (((!decide ((v6 : Int) = 0)) = true) ∧ (((!decide ((v6 : Int) = 0)) = true) →
 ∀ v9 : Int, v9 = (Int.tmod v7 v6) →
 ∀ v10 : Int, v10 = (bitsInt .or .u64 (IntKind.wrap .u64 (v9 * 4294967296)) v4) →
 (((!decide ((v6 : Int) = 0)) = true) ∧ (((!decide ((v6 : Int) = 0)) = true) →
 ∀ v11 : Int, v11 = (IntKind.wrap .u32 (v10 / v6)) →
 (((!decide ((v6 : Int) = 0)) = true) ∧ (((!decide ((v6 : Int) = 0)) = true) →
 ∀ v12 : Int, v12 = (Int.tmod v10 v6) →
 ∀ v13 : Int, v13 = (bitsInt .or .u64 (IntKind.wrap .u64 (v12 * 4294967296)) v3) →
 (((!decide ((v6 : Int) = 0)) = true) ∧ (((!decide ((v6 : Int) = 0)) = true) →
 ∀ v14 : Int, v14 = (IntKind.wrap .u32 (v13 / v6)) →
 (((!decide ((v6 : Int) = 0)) = true) ∧ (((!decide ((v6 : Int) = 0)) = true) →
 ∀ v15 : Int, v15 = (Int.tmod v13 v6) →
 ∀ v16 : Int, v16 = (bitsInt .or .u64 (IntKind.wrap .u64 (v15 * 4294967296)) v2) →
 (((!decide ((v6 : Int) = 0)) = true) ∧ (((!decide ((v6 : Int) = 0)) = true) →
 ∀ v17 : Int, v17 = (IntKind.wrap .u32 (v16 / v6)) →
 (((!decide ((v6 : Int) = 0)) = true) ∧ (((!decide ((v6 : Int) = 0)) = true) →
 ∀ v18 : Int, v18 = (Int.tmod v16 v6) →
 ∀ v19 : Int, v19 = (bitsInt .or .u64 (IntKind.wrap .u64 (v18 * 4294967296)) v1) →
 (((!decide ((v6 : Int) = 0)) = true) ∧ (((!decide ((v6 : Int) = 0)) = true) →
 ∀ v20 : Int, v20 = (IntKind.wrap .u32 (v19 / v6)) →
 (((!decide ((v6 : Int) = 0)) = true) ∧ (((!decide ((v6 : Int) = 0)) = true) →
 ∀ v21 : Int, v21 = (Int.tmod v19 v6) →
 ∀ v22 : Int, v22 = (bitsInt .or .u64 (IntKind.wrap .u64 (v21 * 4294967296)) v0) →
 (((!decide ((v6 : Int) = 0)) = true) ∧ (((!decide ((v6 : Int) = 0)) = true) →
 ∀ v23 : Int, v23 = (IntKind.wrap .u32 (v22 / v6)) →
 (((!decide ((v6 : Int) = 0)) = true) ∧ (((!decide ((v6 : Int) = 0)) = true) →
 ∀ v24 : Int, v24 = (Int.tmod v22 v6) →
 ∀ v25 : Int, v25 = (IntKind.wrap .u32 v24) →
 post [v23, v20, v17, v14, v11, v8, v25]))))))))))))))))))))))))
theorem q72 (T : Tab) (I : Nat → List Int → List Int → Prop) (M : Nat → List Int → List Int → Nat) (pre : Nat → List Int → Prop) (post : List Int → Prop) (v0 v1 v2 v3 v4 v5 v6 : Int) : t72.plain T (presL pre I M) post ⟨[v0, v1, v2, v3, v4, v5, v6], []⟩ = p72 T I M pre post v0 v1 v2 v3 v4 v5 v6 := by kernel_rfl
theorem k72 (T : Tab) (I : Nat → List Int → List Int → Prop) (M : Nat → List Int → List Int → Nat) (pre : Nat → List Int → Prop) (hs : SubSig T c72.sigs) (ht : Tot pre c72.sigs) (hg : T.sig 72 = some s72) (hC : CtAll Try.prog T.fns (pres pre) c72.sigs) (hi : ∀ xs, pre 72 xs → allHas iv72 xs)
    (h : ∀ (v0 v1 v2 v3 v4 v5 v6 : Int), (0 ≤ v0 ∧ v0 ≤ 4294967295) → (0 ≤ v1 ∧ v1 ≤ 4294967295) → (0 ≤ v2 ∧ v2 ≤ 4294967295) → (0 ≤ v3 ∧ v3 ≤ 4294967295) → (0 ≤ v4 ∧ v4 ≤ 4294967295) → (0 ≤ v5 ∧ v5 ≤ 4294967295) → (0 ≤ v6 ∧ v6 ≤ 4294967295) → pre 72 [v0, v1, v2, v3, v4, v5, v6] → p72 T I M pre (fun ys => ys = T.fn 72 [v0, v1, v2, v3, v4, v5, v6]) v0 v1 v2 v3 v4 v5 v6) : CT Try.prog T.fns (pres pre) 72 s72 :=
  T.ctq (F := ⟨c72, []⟩) (fuel := 250) v72 Try.checked.mixed hs ht hg hC Try.func72 I M (fun xs _ h => hi xs h) fun xs hx hp => by
    match xs, hx, hp with
    | [v0, v1, v2, v3, v4, v5, v6], hx, hp => rw [q72]; exact h v0 v1 v2 v3 v4 v5 v6 hx.1 hx.2.1 hx.2.2.1 hx.2.2.2.1 hx.2.2.2.2.1 hx.2.2.2.2.2.1 hx.2.2.2.2.2.2.1 hp

end Go.Proofs.Ytmlmdicdblgcfaa.Sx

namespace Go.Proofs.Ytmlmdicdblgcfaa.Sx
open Go Go.RowKit
/-- math/bits.LeadingZeros32 -/
noncomputable def c99 : Cfg := ⟨Try.prog, [(88, s88)]⟩
def iv99 : List Iv := [⟨0, 4294967295⟩]
def t99 : VC :=
 (.call 88 (.e (.var 0) .nil) 1
 (.bind (.sub (.lit 32) (.var 1))
 (.fin (.e (.var 2) .nil))))
theorem v99 : vcOfI ⟨c99, []⟩ iv99 250 Try.f99 s99 = t99 := by kernel_rfl
set_option linter.unusedVariables false in
def p99 (T : Tab) (I : Nat → List Int → List Int → Prop) (M : Nat → List Int → List Int → Nat) (pre : Nat → List Int → Prop) (post : List Int → Prop) (v0 : Int) : Prop :=
 ∀ v1 : Int, [v1] = T.out 88 1 [v0] →
 ∀ v2 : Int, v2 = (32 - v1) →
 post [v2]
theorem q99 (T : Tab) (I : Nat → List Int → List Int → Prop) (M : Nat → List Int → List Int → Nat) (pre : Nat → List Int → Prop) (post : List Int → Prop) (v0 : Int) : t99.plain T (presL pre I M) post ⟨[v0], []⟩ = p99 T I M pre post v0 := by kernel_rfl
theorem k99 (T : Tab) (I : Nat → List Int → List Int → Prop) (M : Nat → List Int → List Int → Nat) (pre : Nat → List Int → Prop) (hs : SubSig T c99.sigs) (ht : Tot pre c99.sigs) (hg : T.sig 99 = some s99) (hC : CtAll Try.prog T.fns (pres pre) c99.sigs)
    (h : ∀ (v0 : Int), (0 ≤ v0 ∧ v0 ≤ 4294967295) → pre 99 [v0] → p99 T I M pre (fun ys => ys = T.fn 99 [v0]) v0) : CT Try.prog T.fns (pres pre) 99 s99 :=
  T.ctq (F := ⟨c99, []⟩) (fuel := 250) v99 Try.checked.mixed hs ht hg hC Try.func99 I M (fun _ h _ => h) fun xs hx hp => by
    match xs, hx, hp with
    | [v0], hx, hp => rw [q99]; exact h v0 hx.1 hp

/-- (loop.example/g01242/impl.limbs).upRow -/
noncomputable def c100 : Cfg := ⟨Try.prog, []⟩
def iv100 : List Iv := [⟨0, 4294967295⟩, ⟨0, 4294967295⟩, ⟨0, 4294967295⟩, ⟨0, 4294967295⟩, ⟨0, 4294967295⟩, ⟨0, 4294967295⟩, ⟨0, 31⟩]
def t100 : VC :=
 (.bind (.bits .or .u32 (.mul (.lit 0) (.pow2 (.var 6))) (.div (.var 5) (.pow2 (.sub (.lit 32) (.var 6)))))
 (.bind (.bits .or .u32 (.wrap .u32 (.mul (.var 5) (.pow2 (.var 6)))) (.div (.var 4) (.pow2 (.sub (.lit 32) (.var 6)))))
 (.bind (.bits .or .u32 (.wrap .u32 (.mul (.var 4) (.pow2 (.var 6)))) (.div (.var 3) (.pow2 (.sub (.lit 32) (.var 6)))))
 (.bind (.bits .or .u32 (.wrap .u32 (.mul (.var 3) (.pow2 (.var 6)))) (.div (.var 2) (.pow2 (.sub (.lit 32) (.var 6)))))
 (.bind (.bits .or .u32 (.wrap .u32 (.mul (.var 2) (.pow2 (.var 6)))) (.div (.var 1) (.pow2 (.sub (.lit 32) (.var 6)))))
 (.bind (.bits .or .u32 (.wrap .u32 (.mul (.var 1) (.pow2 (.var 6)))) (.div (.var 0) (.pow2 (.sub (.lit 32) (.var 6)))))
 (.bind (.wrap .u32 (.mul (.var 0) (.pow2 (.var 6))))
 (.fin (.e (.var 13) (.e (.var 12) (.e (.var 11) (.e (.var 10) (.e (.var 9) (.e (.var 8) (.e (.var 7) .nil)))))))))))))))
theorem v100 : vcOfI ⟨c100, []⟩ iv100 250 Try.f100 s100 = t100 := by kernel_rfl
set_option linter.unusedVariables false in
def p100 (T : Tab) (I : Nat → List Int → List Int → Prop) (M : Nat → List Int → List Int → Nat) (pre : Nat → List Int → Prop) (post : List Int → Prop) (v0 v1 v2 v3 v4 v5 v6 : Int) : Prop :=
 ∀ v7 : Int, v7 = (bitsInt .or .u32 (0 * (2 ^ (v6 : Int).toNat)) (v5 / (2 ^ ((32 - v6) : Int).toNat))) →
 ∀ v8 : Int, v8 = (bitsInt .or .u32 (IntKind.wrap .u32 (v5 * (2 ^ (v6 : Int).toNat))) (v4 / (2 ^ ((32 - v6) : Int).toNat))) →
 ∀ v9 : Int, v9 = (bitsInt .or .u32 (IntKind.wrap .u32 (v4 * (2 ^ (v6 : Int).toNat))) (v3 / (2 ^ ((32 - v6) : Int).toNat))) →
 ∀ v10 : Int, v10 = (bitsInt .or .u32 (IntKind.wrap .u32 (v3 * (2 ^ (v6 : Int).toNat))) (v2 / (2 ^ ((32 - v6) : Int).toNat))) →
 ∀ v11 : Int, v11 = (bitsInt .or .u32 (IntKind.wrap .u32 (v2 * (2 ^ (v6 : Int).toNat))) (v1 / (2 ^ ((32 - v6) : Int).toNat))) →
 ∀ v12 : Int, v12 = (bitsInt .or .u32 (IntKind.wrap .u32 (v1 * (2 ^ (v6 : Int).toNat))) (v0 / (2 ^ ((32 - v6) : Int).toNat))) →
 ∀ v13 : Int, v13 = (IntKind.wrap .u32 (v0 * (2 ^ (v6 : Int).toNat))) →
 post [v13, v12, v11, v10, v9, v8, v7]
theorem q100 (T : Tab) (I : Nat → List Int → List Int → Prop) (M : Nat → List Int → List Int → Nat) (pre : Nat → List Int → Prop) (post : List Int → Prop) (v0 v1 v2 v3 v4 v5 v6 : Int) : t100.plain T (presL pre I M) post ⟨[v0, v1, v2, v3, v4, v5, v6], []⟩ = p100 T I M pre post v0 v1 v2 v3 v4 v5 v6 := by kernel_rfl
theorem k100 (T : Tab) (I : Nat → List Int → List Int → Prop) (M : Nat → List Int → List Int → Nat) (pre : Nat → List Int → Prop) (hs : SubSig T c100.sigs) (ht : Tot pre c100.sigs) (hg : T.sig 100 = some s100) (hC : CtAll Try.prog T.fns (pres pre) c100.sigs) (hi : ∀ xs, pre 100 xs → allHas iv100 xs)
    (h : ∀ (v0 v1 v2 v3 v4 v5 v6 : Int), (0 ≤ v0 ∧ v0 ≤ 4294967295) → (0 ≤ v1 ∧ v1 ≤ 4294967295) → (0 ≤ v2 ∧ v2 ≤ 4294967295) → (0 ≤ v3 ∧ v3 ≤ 4294967295) → (0 ≤ v4 ∧ v4 ≤ 4294967295) → (0 ≤ v5 ∧ v5 ≤ 4294967295) → (0 ≤ v6 ∧ v6 ≤ 31) → pre 100 [v0, v1, v2, v3, v4, v5, v6] → p100 T I M pre (fun ys => ys = T.fn 100 [v0, v1, v2, v3, v4, v5, v6]) v0 v1 v2 v3 v4 v5 v6) : CT Try.prog T.fns (pres pre) 100 s100 :=
  T.ctq (F := ⟨c100, []⟩) (fuel := 250) v100 Try.checked.mixed hs ht hg hC Try.func100 I M (fun xs _ h => hi xs h) fun xs hx hp => by
    match xs, hx, hp with
    | [v0, v1, v2, v3, v4, v5, v6], hx, hp => rw [q100]; exact h v0 v1 v2 v3 v4 v5 v6 hx.1 hx.2.1 hx.2.2.1 hx.2.2.2.1 hx.2.2.2.2.1 hx.2.2.2.2.2.1 hx.2.2.2.2.2.2.1 hp

/-- (loop.example/g01242/impl.limbRow).guess -/
noncomputable def c101 : Cfg := ⟨Try.prog, []⟩
def iv101 : List Iv := [⟨0, 4294967295⟩, ⟨0, 4294967295⟩, ⟨0, 4294967295⟩, ⟨0, 4294967295⟩, ⟨0, 4294967295⟩, ⟨0, 4294967295⟩, ⟨0, 4294967295⟩, ⟨0, 4294967295⟩, ⟨0, 4294967295⟩, ⟨0, 4294967295⟩, ⟨0, 4294967295⟩, ⟨0, 4294967295⟩, ⟨0, 4294967295⟩, ⟨0, 6⟩, ⟨0, 6⟩]
def t101 : VC :=
 (.need [(.b (.le (.lit 0) (.sub (.var 14) (.lit 1)))), (.b (.le (.lit 0) (.sub (.var 14) (.lit 2))))]
 (.bind (.ite (.eq (.sub (.var 14) (.lit 1)) (.lit 0)) (.var 7) (.ite (.eq (.sub (.var 14) (.lit 1)) (.lit 1)) (.var 8) (.ite (.eq (.sub (.var 14) (.lit 1)) (.lit 2)) (.var 9) (.ite (.eq (.sub (.var 14) (.lit 1)) (.lit 3)) (.var 10) (.ite (.eq (.sub (.var 14) (.lit 1)) (.lit 4)) (.var 11) (.var 12))))))
 (.bind (.ite (.eq (.sub (.var 14) (.lit 2)) (.lit 0)) (.var 7) (.ite (.eq (.sub (.var 14) (.lit 2)) (.lit 1)) (.var 8) (.ite (.eq (.sub (.var 14) (.lit 2)) (.lit 2)) (.var 9) (.ite (.eq (.sub (.var 14) (.lit 2)) (.lit 3)) (.var 10) (.ite (.eq (.sub (.var 14) (.lit 2)) (.lit 4)) (.var 11) (.var 12))))))
 (.bind (.ite (.eq (.sub (.var 14) (.lit 1)) (.lit 0)) (.var 7) (.ite (.eq (.sub (.var 14) (.lit 1)) (.lit 1)) (.var 8) (.ite (.eq (.sub (.var 14) (.lit 1)) (.lit 2)) (.var 9) (.ite (.eq (.sub (.var 14) (.lit 1)) (.lit 3)) (.var 10) (.ite (.eq (.sub (.var 14) (.lit 1)) (.lit 4)) (.var 11) (.var 12))))))
 (.bind (.ite (.eq (.sub (.var 14) (.lit 2)) (.lit 0)) (.var 7) (.ite (.eq (.sub (.var 14) (.lit 2)) (.lit 1)) (.var 8) (.ite (.eq (.sub (.var 14) (.lit 2)) (.lit 2)) (.var 9) (.ite (.eq (.sub (.var 14) (.lit 2)) (.lit 3)) (.var 10) (.ite (.eq (.sub (.var 14) (.lit 2)) (.lit 4)) (.var 11) (.var 12))))))
 (.need [(.b (.lt (.add (.var 13) (.var 14)) (.lit 7))), (.b (.le (.lit 0) (.sub (.add (.var 13) (.var 14)) (.lit 1)))), (.b (.lt (.sub (.add (.var 13) (.var 14)) (.lit 1)) (.lit 7)))]
 (.bind (.ite (.eq (.add (.var 13) (.var 14)) (.lit 0)) (.var 0) (.ite (.eq (.add (.var 13) (.var 14)) (.lit 1)) (.var 1) (.ite (.eq (.add (.var 13) (.var 14)) (.lit 2)) (.var 2) (.ite (.eq (.add (.var 13) (.var 14)) (.lit 3)) (.var 3) (.ite (.eq (.add (.var 13) (.var 14)) (.lit 4)) (.var 4) (.ite (.eq (.add (.var 13) (.var 14)) (.lit 5)) (.var 5) (.var 6)))))))
 (.bind (.ite (.eq (.sub (.add (.var 13) (.var 14)) (.lit 1)) (.lit 0)) (.var 0) (.ite (.eq (.sub (.add (.var 13) (.var 14)) (.lit 1)) (.lit 1)) (.var 1) (.ite (.eq (.sub (.add (.var 13) (.var 14)) (.lit 1)) (.lit 2)) (.var 2) (.ite (.eq (.sub (.add (.var 13) (.var 14)) (.lit 1)) (.lit 3)) (.var 3) (.ite (.eq (.sub (.add (.var 13) (.var 14)) (.lit 1)) (.lit 4)) (.var 4) (.ite (.eq (.sub (.add (.var 13) (.var 14)) (.lit 1)) (.lit 5)) (.var 5) (.var 6)))))))
 (.bind (.bits .or .u64 (.mul (.ite (.eq (.add (.var 13) (.var 14)) (.lit 0)) (.var 0) (.ite (.eq (.add (.var 13) (.var 14)) (.lit 1)) (.var 1) (.ite (.eq (.add (.var 13) (.var 14)) (.lit 2)) (.var 2) (.ite (.eq (.add (.var 13) (.var 14)) (.lit 3)) (.var 3) (.ite (.eq (.add (.var 13) (.var 14)) (.lit 4)) (.var 4) (.ite (.eq (.add (.var 13) (.var 14)) (.lit 5)) (.var 5) (.var 6))))))) (.lit 4294967296)) (.ite (.eq (.sub (.add (.var 13) (.var 14)) (.lit 1)) (.lit 0)) (.var 0) (.ite (.eq (.sub (.add (.var 13) (.var 14)) (.lit 1)) (.lit 1)) (.var 1) (.ite (.eq (.sub (.add (.var 13) (.var 14)) (.lit 1)) (.lit 2)) (.var 2) (.ite (.eq (.sub (.add (.var 13) (.var 14)) (.lit 1)) (.lit 3)) (.var 3) (.ite (.eq (.sub (.add (.var 13) (.var 14)) (.lit 1)) (.lit 4)) (.var 4) (.ite (.eq (.sub (.add (.var 13) (.var 14)) (.lit 1)) (.lit 5)) (.var 5) (.var 6))))))))
 (.need [(.b (.not (.eq (.var 17) (.lit 0)))), (.b (.not (.eq (.var 17) (.lit 0))))]
 (.bind (.div (.var 21) (.var 17))
 (.bind (.tmod (.var 21) (.var 17))
 (.ite (.le (.var 22) (.lit 4294967295))
  (.need [(.b (.le (.lit 0) (.sub (.add (.var 13) (.var 14)) (.lit 2)))), (.b (.lt (.sub (.add (.var 13) (.var 14)) (.lit 2)) (.lit 7)))]
  (.bind (.ite (.eq (.sub (.add (.var 13) (.var 14)) (.lit 2)) (.lit 0)) (.var 0) (.ite (.eq (.sub (.add (.var 13) (.var 14)) (.lit 2)) (.lit 1)) (.var 1) (.ite (.eq (.sub (.add (.var 13) (.var 14)) (.lit 2)) (.lit 2)) (.var 2) (.ite (.eq (.sub (.add (.var 13) (.var 14)) (.lit 2)) (.lit 3)) (.var 3) (.ite (.eq (.sub (.add (.var 13) (.var 14)) (.lit 2)) (.lit 4)) (.var 4) (.ite (.eq (.sub (.add (.var 13) (.var 14)) (.lit 2)) (.lit 5)) (.var 5) (.var 6)))))))
  (.ite (.lt (.bits .or .u64 (.wrap .u64 (.mul (.var 23) (.lit 4294967296))) (.var 24)) (.mul (.var 22) (.var 18)))
   (.bind (.wrap .u64 (.sub (.var 22) (.lit 1)))
   (.bind (.wrap .u64 (.add (.var 23) (.var 17)))
   (.ite (.le (.var 26) (.lit 4294967295))
    (.loop 2 [(.var 25), (.var 26)] [⟨0, 18446744073709551615⟩, ⟨0, 18446744073709551615⟩]
     (.ite (.le (.var 27) (.lit 4294967295))
      (.need [(.b (.le (.lit 0) (.sub (.add (.var 13) (.var 14)) (.lit 2)))), (.b (.lt (.sub (.add (.var 13) (.var 14)) (.lit 2)) (.lit 7)))]
      (.bind (.ite (.eq (.sub (.add (.var 13) (.var 14)) (.lit 2)) (.lit 0)) (.var 0) (.ite (.eq (.sub (.add (.var 13) (.var 14)) (.lit 2)) (.lit 1)) (.var 1) (.ite (.eq (.sub (.add (.var 13) (.var 14)) (.lit 2)) (.lit 2)) (.var 2) (.ite (.eq (.sub (.add (.var 13) (.var 14)) (.lit 2)) (.lit 3)) (.var 3) (.ite (.eq (.sub (.add (.var 13) (.var 14)) (.lit 2)) (.lit 4)) (.var 4) (.ite (.eq (.sub (.add (.var 13) (.var 14)) (.lit 2)) (.lit 5)) (.var 5) (.var 6)))))))
      (.ite (.lt (.bits .or .u64 (.wrap .u64 (.mul (.var 28) (.lit 4294967296))) (.var 29)) (.mul (.var 27) (.var 18)))
       (.bind (.wrap .u64 (.sub (.var 27) (.lit 1)))
       (.bind (.wrap .u64 (.add (.var 28) (.var 17)))
       (.ite (.le (.var 31) (.lit 4294967295))
        (.again 2 27 [⟨0, 18446744073709551615⟩, ⟨0, 18446744073709551615⟩] [(.var 30), (.var 31)])
        (.bind (.wrap .u32 (.var 30))
        (.fin (.e (.var 32) .nil))))))
       (.fin (.e (.var 27) .nil)))))
      (.bind (.wrap .u64 (.add (.var 28) (.var 17)))
      (.ite (.le (.var 29) (.lit 4294967295))
       (.again 2 27 [⟨0, 18446744073709551615⟩, ⟨0, 18446744073709551615⟩] [(.sub (.var 27) (.lit 1)), (.var 29)])
       (.bind (.wrap .u32 (.sub (.var 27) (.lit 1)))
       (.fin (.e (.var 30) .nil)))))))
    (.bind (.wrap .u32 (.var 25))
    (.fin (.e (.var 27) .nil))))))
   (.fin (.e (.var 22) .nil)))))
  (.bind (.wrap .u64 (.add (.var 23) (.var 17)))
  (.ite (.le (.var 24) (.lit 4294967295))
   (.loop 2 [(.sub (.var 22) (.lit 1)), (.var 24)] [⟨0, 18446744073709551615⟩, ⟨0, 18446744073709551615⟩]
    (.ite (.le (.var 25) (.lit 4294967295))
     (.need [(.b (.le (.lit 0) (.sub (.add (.var 13) (.var 14)) (.lit 2)))), (.b (.lt (.sub (.add (.var 13) (.var 14)) (.lit 2)) (.lit 7)))]
     (.bind (.ite (.eq (.sub (.add (.var 13) (.var 14)) (.lit 2)) (.lit 0)) (.var 0) (.ite (.eq (.sub (.add (.var 13) (.var 14)) (.lit 2)) (.lit 1)) (.var 1) (.ite (.eq (.sub (.add (.var 13) (.var 14)) (.lit 2)) (.lit 2)) (.var 2) (.ite (.eq (.sub (.add (.var 13) (.var 14)) (.lit 2)) (.lit 3)) (.var 3) (.ite (.eq (.sub (.add (.var 13) (.var 14)) (.lit 2)) (.lit 4)) (.var 4) (.ite (.eq (.sub (.add (.var 13) (.var 14)) (.lit 2)) (.lit 5)) (.var 5) (.var 6)))))))
     (.ite (.lt (.bits .or .u64 (.wrap .u64 (.mul (.var 26) (.lit 4294967296))) (.var 27)) (.mul (.var 25) (.var 18)))
      (.bind (.wrap .u64 (.sub (.var 25) (.lit 1)))
      (.bind (.wrap .u64 (.add (.var 26) (.var 17)))
      (.ite (.le (.var 29) (.lit 4294967295))
       (.again 2 25 [⟨0, 18446744073709551615⟩, ⟨0, 18446744073709551615⟩] [(.var 28), (.var 29)])
       (.bind (.wrap .u32 (.var 28))
       (.fin (.e (.var 30) .nil))))))
      (.fin (.e (.var 25) .nil)))))
     (.bind (.wrap .u64 (.add (.var 26) (.var 17)))
     (.ite (.le (.var 27) (.lit 4294967295))
      (.again 2 25 [⟨0, 18446744073709551615⟩, ⟨0, 18446744073709551615⟩] [(.sub (.var 25) (.lit 1)), (.var 27)])
      (.bind (.wrap .u32 (.sub (.var 25) (.lit 1)))
      (.fin (.e (.var 28) .nil)))))))
   (.bind (.wrap .u32 (.sub (.var 22) (.lit 1)))
   (.fin (.e (.var 25) .nil))))))))))))))))))
theorem v101 : vcOfI ⟨c101, [(1000000, ⟨2, [12, 13], [], [45, 46, 47, 48, 49, 50, 51, 52, 53, 54, 55, 56, 57, 58, 59, 60, 61, 62, 63, 64, 65, 66, 67, 68, 69, 70, 71, 8, 16, 21, 27, 35], [⟨0, 18446744073709551615⟩, ⟨0, 18446744073709551615⟩]⟩)]⟩ iv101 250 Try.f101 s101 = t101 := by kernel_rfl
set_option linter.unusedVariables false in
def p101 (T : Tab) (I : Nat → List Int → List Int → Prop) (M : Nat → List Int → List Int → Nat) (pre : Nat → List Int → Prop) (post : List Int → Prop) (v0 v1 v2 v3 v4 v5 v6 v7 v8 v9 v10 v11 v12 v13 v14 : Int) : Prop :=
 ((decide ((0 : Int) ≤ (v14 - 1)) = true ∧ decide ((0 : Int) ≤ (v14 - 2)) = true) ∧ ((decide ((0 : Int) ≤ (v14 - 1)) = true ∧ decide ((0 : Int) ≤ (v14 - 2)) = true) →
 ∀ v15 : Int, v15 = (if decide (((v14 - 1) : Int) = 0) = true then v7 else (if decide (((v14 - 1) : Int) = 1) = true then v8 else (if decide (((v14 - 1) : Int) = 2) = true then v9 else (if decide (((v14 - 1) : Int) = 3) = true then v10 else (if decide (((v14 - 1) : Int) = 4) = true then v11 else v12))))) →
 ∀ v16 : Int, v16 = (if decide (((v14 - 2) : Int) = 0) = true then v7 else (if decide (((v14 - 2) : Int) = 1) = true then v8 else (if decide (((v14 - 2) : Int) = 2) = true then v9 else (if decide (((v14 - 2) : Int) = 3) = true then v10 else (if decide (((v14 - 2) : Int) = 4) = true then v11 else v12))))) →
 ∀ v17 : Int, v17 = (if decide (((v14 - 1) : Int) = 0) = true then v7 else (if decide (((v14 - 1) : Int) = 1) = true then v8 else (if decide (((v14 - 1) : Int) = 2) = true then v9 else (if decide (((v14 - 1) : Int) = 3) = true then v10 else (if decide (((v14 - 1) : Int) = 4) = true then v11 else v12))))) →
 ∀ v18 : Int, v18 = (if decide (((v14 - 2) : Int) = 0) = true then v7 else (if decide (((v14 - 2) : Int) = 1) = true then v8 else (if decide (((v14 - 2) : Int) = 2) = true then v9 else (if decide (((v14 - 2) : Int) = 3) = true then v10 else (if decide (((v14 - 2) : Int) = 4) = true then v11 else v12))))) →
 ((decide (((v13 + v14) : Int) < 7) = true ∧ decide ((0 : Int) ≤ ((v13 + v14) - 1)) = true ∧ decide ((((v13 + v14) - 1) : Int) < 7) = true) ∧ ((decide (((v13 + v14) : Int) < 7) = true ∧ decide ((0 : Int) ≤ ((v13 + v14) - 1)) = true ∧ decide ((((v13 + v14) - 1) : Int) < 7) = true) →
 ∀ v19 : Int, v19 = (if decide (((v13 + v14) : Int) = 0) = true then v0 else (if decide (((v13 + v14) : Int) = 1) = true then v1 else (if decide (((v13 + v14) : Int) = 2) = true then v2 else (if decide (((v13 + v14) : Int) = 3) = true then v3 else (if decide (((v13 + v14) : Int) = 4) = true then v4 else (if decide (((v13 + v14) : Int) = 5) = true then v5 else v6)))))) →
 ∀ v20 : Int, v20 = (if decide ((((v13 + v14) - 1) : Int) = 0) = true then v0 else (if decide ((((v13 + v14) - 1) : Int) = 1) = true then v1 else (if decide ((((v13 + v14) - 1) : Int) = 2) = true then v2 else (if decide ((((v13 + v14) - 1) : Int) = 3) = true then v3 else (if decide ((((v13 + v14) - 1) : Int) = 4) = true then v4 else (if decide ((((v13 + v14) - 1) : Int) = 5) = true then v5 else v6)))))) →
 ∀ v21 : Int, v21 = (bitsInt .or .u64 ((if decide (((v13 + v14) : Int) = 0) = true then v0 else (if decide (((v13 + v14) : Int) = 1) = true then v1 else (if decide (((v13 + v14) : Int) = 2) = true then v2 else (if decide (((v13 + v14) : Int) = 3) = true then v3 else (if decide (((v13 + v14) : Int) = 4) = true then v4 else (if decide (((v13 + v14) : Int) = 5) = true then v5 else v6)))))) * 4294967296) (if decide ((((v13 + v14) - 1) : Int) = 0) = true then v0 else (if decide ((((v13 + v14) - 1) : Int) = 1) = true then v1 else (if decide ((((v13 + v14) - 1) : Int) = 2) = true then v2 else (if decide ((((v13 + v14) - 1) : Int) = 3) = true then v3 else (if decide ((((v13 + v14) - 1) : Int) = 4) = true then v4 else (if decide ((((v13 + v14) - 1) : Int) = 5) = true then v5 else v6))))))) →
 (((!decide ((v17 : Int) = 0)) = true ∧ (!decide ((v17 : Int) = 0)) = true) ∧ (((!decide ((v17 : Int) = 0)) = true ∧ (!decide ((v17 : Int) = 0)) = true) →
 ∀ v22 : Int, v22 = (v21 / v17) →
 ∀ v23 : Int, v23 = (Int.tmod v21 v17) →
 ((decide ((v22 : Int) ≤ 4294967295) = true →
  ((decide ((0 : Int) ≤ ((v13 + v14) - 2)) = true ∧ decide ((((v13 + v14) - 2) : Int) < 7) = true) ∧ ((decide ((0 : Int) ≤ ((v13 + v14) - 2)) = true ∧ decide ((((v13 + v14) - 2) : Int) < 7) = true) →
  ∀ v24 : Int, v24 = (if decide ((((v13 + v14) - 2) : Int) = 0) = true then v0 else (if decide ((((v13 + v14) - 2) : Int) = 1) = true then v1 else (if decide ((((v13 + v14) - 2) : Int) = 2) = true then v2 else (if decide ((((v13 + v14) - 2) : Int) = 3) = true then v3 else (if decide ((((v13 + v14) - 2) : Int) = 4) = true then v4 else (if decide ((((v13 + v14) - 2) : Int) = 5) = true then v5 else v6)))))) →
  ((decide (((bitsInt .or .u64 (IntKind.wrap .u64 (v23 * 4294967296)) v24) : Int) < (v22 * v18)) = true →
   ∀ v25 : Int, v25 = (IntKind.wrap .u64 (v22 - 1)) →
   ∀ v26 : Int, v26 = (IntKind.wrap .u64 (v23 + v17)) →
   ((decide ((v26 : Int) ≤ 4294967295) = true →
    ((allHas [⟨0, 18446744073709551615⟩, ⟨0, 18446744073709551615⟩] [v25, v26] ∧ I 2 [v0, v1, v2, v3, v4, v5, v6, v7, v8, v9, v10, v11, v12, v13, v14, v15, v16, v17, v18, v19, v20, v21, v22, v23, v24, v25, v26] [v25, v26]) ∧ ∀ v27 v28 : Int, allHas [⟨0, 18446744073709551615⟩, ⟨0, 18446744073709551615⟩] [v27, v28] → I 2 [v0, v1, v2, v3, v4, v5, v6, v7, v8, v9, v10, v11, v12, v13, v14, v15, v16, v17, v18, v19, v20, v21, v22, v23, v24, v25, v26] [v27, v28] →
     ((decide ((v27 : Int) ≤ 4294967295) = true →
      ((decide ((0 : Int) ≤ ((v13 + v14) - 2)) = true ∧ decide ((((v13 + v14) - 2) : Int) < 7) = true) ∧ ((decide ((0 : Int) ≤ ((v13 + v14) - 2)) = true ∧ decide ((((v13 + v14) - 2) : Int) < 7) = true) →
      ∀ v29 : Int, v29 = (if decide ((((v13 + v14) - 2) : Int) = 0) = true then v0 else (if decide ((((v13 + v14) - 2) : Int) = 1) = true then v1 else (if decide ((((v13 + v14) - 2) : Int) = 2) = true then v2 else (if decide ((((v13 + v14) - 2) : Int) = 3) = true then v3 else (if decide ((((v13 + v14) - 2) : Int) = 4) = true then v4 else (if decide ((((v13 + v14) - 2) : Int) = 5) = true then v5 else v6)))))) →
      ((decide (((bitsInt .or .u64 (IntKind.wrap .u64 (v28 * 4294967296)) v29) : Int) < (v27 * v18)) = true →
       ∀ v30 : Int, v30 = (IntKind.wrap .u64 (v27 - 1)) →
       ∀ v31 : Int, v31 = (IntKind.wrap .u64 (v28 + v17)) →
       ((decide ((v31 : Int) ≤ 4294967295) = true →
        (allHas [⟨0, 18446744073709551615⟩, ⟨0, 18446744073709551615⟩] [v30, v31] ∧ I 2 [v0, v1, v2, v3, v4, v5, v6, v7, v8, v9, v10, v11, v12, v13, v14, v15, v16, v17, v18, v19, v20, v21, v22, v23, v24, v25, v26] [v30, v31] ∧ M 2 [v0, v1, v2, v3, v4, v5, v6, v7, v8, v9, v10, v11, v12, v13, v14, v15, v16, v17, v18, v19, v20, v21, v22, v23, v24, v25, v26] [v30, v31] < M 2 [v0, v1, v2, v3, v4, v5, v6, v7, v8, v9, v10, v11, v12, v13, v14, v15, v16, v17, v18, v19, v20, v21, v22, v23, v24, v25, v26] [v27, v28])) ∧ (decide ((v31 : Int) ≤ 4294967295) = false →
        ∀ v32 : Int, v32 = (IntKind.wrap .u32 v30) →
        post [v32]))) ∧ (decide (((bitsInt .or .u64 (IntKind.wrap .u64 (v28 * 4294967296)) v29) : Int) < (v27 * v18)) = false →
       post [v27]))))) ∧ (decide ((v27 : Int) ≤ 4294967295) = false →
      ∀ v29 : Int, v29 = (IntKind.wrap .u64 (v28 + v17)) →
      ((decide ((v29 : Int) ≤ 4294967295) = true →
       (allHas [⟨0, 18446744073709551615⟩, ⟨0, 18446744073709551615⟩] [(v27 - 1), v29] ∧ I 2 [v0, v1, v2, v3, v4, v5, v6, v7, v8, v9, v10, v11, v12, v13, v14, v15, v16, v17, v18, v19, v20, v21, v22, v23, v24, v25, v26] [(v27 - 1), v29] ∧ M 2 [v0, v1, v2, v3, v4, v5, v6, v7, v8, v9, v10, v11, v12, v13, v14, v15, v16, v17, v18, v19, v20, v21, v22, v23, v24, v25, v26] [(v27 - 1), v29] < M 2 [v0, v1, v2, v3, v4, v5, v6, v7, v8, v9, v10, v11, v12, v13, v14, v15, v16, v17, v18, v19, v20, v21, v22, v23, v24, v25, v26] [v27, v28])) ∧ (decide ((v29 : Int) ≤ 4294967295) = false →
       ∀ v30 : Int, v30 = (IntKind.wrap .u32 (v27 - 1)) →
       post [v30])))))) ∧ (decide ((v26 : Int) ≤ 4294967295) = false →
    ∀ v27 : Int, v27 = (IntKind.wrap .u32 v25) →
    post [v27]))) ∧ (decide (((bitsInt .or .u64 (IntKind.wrap .u64 (v23 * 4294967296)) v24) : Int) < (v22 * v18)) = false →
   post [v22]))))) ∧ (decide ((v22 : Int) ≤ 4294967295) = false →
  ∀ v24 : Int, v24 = (IntKind.wrap .u64 (v23 + v17)) →
  ((decide ((v24 : Int) ≤ 4294967295) = true →
   ((allHas [⟨0, 18446744073709551615⟩, ⟨0, 18446744073709551615⟩] [(v22 - 1), v24] ∧ I 2 [v0, v1, v2, v3, v4, v5, v6, v7, v8, v9, v10, v11, v12, v13, v14, v15, v16, v17, v18, v19, v20, v21, v22, v23, v24] [(v22 - 1), v24]) ∧ ∀ v25 v26 : Int, allHas [⟨0, 18446744073709551615⟩, ⟨0, 18446744073709551615⟩] [v25, v26] → I 2 [v0, v1, v2, v3, v4, v5, v6, v7, v8, v9, v10, v11, v12, v13, v14, v15, v16, v17, v18, v19, v20, v21, v22, v23, v24] [v25, v26] →
    ((decide ((v25 : Int) ≤ 4294967295) = true →
     ((decide ((0 : Int) ≤ ((v13 + v14) - 2)) = true ∧ decide ((((v13 + v14) - 2) : Int) < 7) = true) ∧ ((decide ((0 : Int) ≤ ((v13 + v14) - 2)) = true ∧ decide ((((v13 + v14) - 2) : Int) < 7) = true) →
     ∀ v27 : Int, v27 = (if decide ((((v13 + v14) - 2) : Int) = 0) = true then v0 else (if decide ((((v13 + v14) - 2) : Int) = 1) = true then v1 else (if decide ((((v13 + v14) - 2) : Int) = 2) = true then v2 else (if decide ((((v13 + v14) - 2) : Int) = 3) = true then v3 else (if decide ((((v13 + v14) - 2) : Int) = 4) = true then v4 else (if decide ((((v13 + v14) - 2) : Int) = 5) = true then v5 else v6)))))) →
     ((decide (((bitsInt .or .u64 (IntKind.wrap .u64 (v26 * 4294967296)) v27) : Int) < (v25 * v18)) = true →
      ∀ v28 : Int, v28 = (IntKind.wrap .u64 (v25 - 1)) →
      ∀ v29 : Int, v29 = (IntKind.wrap .u64 (v26 + v17)) →
      ((decide ((v29 : Int) ≤ 4294967295) = true →
       (allHas [⟨0, 18446744073709551615⟩, ⟨0, 18446744073709551615⟩] [v28, v29] ∧ I 2 [v0, v1, v2, v3, v4, v5, v6, v7, v8, v9, v10, v11, v12, v13, v14, v15, v16, v17, v18, v19, v20, v21, v22, v23, v24] [v28, v29] ∧ M 2 [v0, v1, v2, v3, v4, v5, v6, v7, v8, v9, v10, v11, v12, v13, v14, v15, v16, v17, v18, v19, v20, v21, v22, v23, v24] [v28, v29] < M 2 [v0, v1, v2, v3, v4, v5, v6, v7, v8, v9, v10, v11, v12, v13, v14, v15, v16, v17, v18, v19, v20, v21, v22, v23, v24] [v25, v26])) ∧ (decide ((v29 : Int) ≤ 4294967295) = false →
       ∀ v30 : Int, v30 = (IntKind.wrap .u32 v28) →
       post [v30]))) ∧ (decide (((bitsInt .or .u64 (IntKind.wrap .u64 (v26 * 4294967296)) v27) : Int) < (v25 * v18)) = false →
      post [v25]))))) ∧ (decide ((v25 : Int) ≤ 4294967295) = false →
     ∀ v27 : Int, v27 = (IntKind.wrap .u64 (v26 + v17)) →
     ((decide ((v27 : Int) ≤ 4294967295) = true →
      (allHas [⟨0, 18446744073709551615⟩, ⟨0, 18446744073709551615⟩] [(v25 - 1), v27] ∧ I 2 [v0, v1, v2, v3, v4, v5, v6, v7, v8, v9, v10, v11, v12, v13, v14, v15, v16, v17, v18, v19, v20, v21, v22, v23, v24] [(v25 - 1), v27] ∧ M 2 [v0, v1, v2, v3, v4, v5, v6, v7, v8, v9, v10, v11, v12, v13, v14, v15, v16, v17, v18, v19, v20, v21, v22, v23, v24] [(v25 - 1), v27] < M 2 [v0, v1, v2, v3, v4, v5, v6, v7, v8, v9, v10, v11, v12, v13, v14, v15, v16, v17, v18, v19, v20, v21, v22, v23, v24] [v25, v26])) ∧ (decide ((v27 : Int) ≤ 4294967295) = false →
      ∀ v28 : Int, v28 = (IntKind.wrap .u32 (v25 - 1)) →
      post [v28])))))) ∧ (decide ((v24 : Int) ≤ 4294967295) = false →
   ∀ v25 : Int, v25 = (IntKind.wrap .u32 (v22 - 1)) →
   post [v25]))))))))))
theorem q101 (T : Tab) (I : Nat → List Int → List Int → Prop) (M : Nat → List Int → List Int → Nat) (pre : Nat → List Int → Prop) (post : List Int → Prop) (v0 v1 v2 v3 v4 v5 v6 v7 v8 v9 v10 v11 v12 v13 v14 : Int) : t101.plain T (presL pre I M) post ⟨[v0, v1, v2, v3, v4, v5, v6, v7, v8, v9, v10, v11, v12, v13, v14], []⟩ = p101 T I M pre post v0 v1 v2 v3 v4 v5 v6 v7 v8 v9 v10 v11 v12 v13 v14 := by kernel_rfl
theorem k101 (T : Tab) (I : Nat → List Int → List Int → Prop) (M : Nat → List Int → List Int → Nat) (pre : Nat → List Int → Prop) (hs : SubSig T c101.sigs) (ht : Tot pre c101.sigs) (hg : T.sig 101 = some s101) (hC : CtAll Try.prog T.fns (pres pre) c101.sigs) (hi : ∀ xs, pre 101 xs → allHas iv101 xs)
    (h : ∀ (v0 v1 v2 v3 v4 v5 v6 v7 v8 v9 v10 v11 v12 v13 v14 : Int), (0 ≤ v0 ∧ v0 ≤ 4294967295) → (0 ≤ v1 ∧ v1 ≤ 4294967295) → (0 ≤ v2 ∧ v2 ≤ 4294967295) → (0 ≤ v3 ∧ v3 ≤ 4294967295) → (0 ≤ v4 ∧ v4 ≤ 4294967295) → (0 ≤ v5 ∧ v5 ≤ 4294967295) → (0 ≤ v6 ∧ v6 ≤ 4294967295) → (0 ≤ v7 ∧ v7 ≤ 4294967295) → (0 ≤ v8 ∧ v8 ≤ 4294967295) → (0 ≤ v9 ∧ v9 ≤ 4294967295) → (0 ≤ v10 ∧ v10 ≤ 4294967295) → (0 ≤ v11 ∧ v11 ≤ 4294967295) → (0 ≤ v12 ∧ v12 ≤ 4294967295) → (0 ≤ v13 ∧ v13 ≤ 6) → (0 ≤ v14 ∧ v14 ≤ 6) → pre 101 [v0, v1, v2, v3, v4, v5, v6, v7, v8, v9, v10, v11, v12, v13, v14] → p101 T I M pre (fun ys => ys = T.fn 101 [v0, v1, v2, v3, v4, v5, v6, v7, v8, v9, v10, v11, v12, v13, v14]) v0 v1 v2 v3 v4 v5 v6 v7 v8 v9 v10 v11 v12 v13 v14) : CT Try.prog T.fns (pres pre) 101 s101 :=
  T.ctq (F := ⟨c101, [(1000000, ⟨2, [12, 13], [], [45, 46, 47, 48, 49, 50, 51, 52, 53, 54, 55, 56, 57, 58, 59, 60, 61, 62, 63, 64, 65, 66, 67, 68, 69, 70, 71, 8, 16, 21, 27, 35], [⟨0, 18446744073709551615⟩, ⟨0, 18446744073709551615⟩]⟩)]⟩) (fuel := 250) v101 Try.checked.mixed hs ht hg hC Try.func101 I M (fun xs _ h => hi xs h) fun xs hx hp => by
    match xs, hx, hp with
    | [v0, v1, v2, v3, v4, v5, v6, v7, v8, v9, v10, v11, v12, v13, v14], hx, hp => rw [q101]; exact h v0 v1 v2 v3 v4 v5 v6 v7 v8 v9 v10 v11 v12 v13 v14 hx.1 hx.2.1 hx.2.2.1 hx.2.2.2.1 hx.2.2.2.2.1 hx.2.2.2.2.2.1 hx.2.2.2.2.2.2.1 hx.2.2.2.2.2.2.2.1 hx.2.2.2.2.2.2.2.2.1 hx.2.2.2.2.2.2.2.2.2.1 hx.2.2.2.2.2.2.2.2.2.2.1 hx.2.2.2.2.2.2.2.2.2.2.2.1 hx.2.2.2.2.2.2.2.2.2.2.2.2.1 hx.2.2.2.2.2.2.2.2.2.2.2.2.2.1 hx.2.2.2.2.2.2.2.2.2.2.2.2.2.2.1 hp

end Go.Proofs.Ytmlmdicdblgcfaa.Sx

namespace Go.Proofs.Ytmlmdicdblgcfaa.Sx
open Go Go.RowKit
/-- (loop.example/g01242/impl.limbRow).takeAway -/
noncomputable def c102 : Cfg := ⟨Try.prog, []⟩
def iv102 : List Iv := [⟨0, 4294967295⟩, ⟨0, 4294967295⟩, ⟨0, 4294967295⟩, ⟨0, 4294967295⟩, ⟨0, 4294967295⟩, ⟨0, 4294967295⟩, ⟨0, 4294967295⟩, ⟨0, 4294967295⟩, ⟨0, 4294967295⟩, ⟨0, 4294967295⟩, ⟨0, 4294967295⟩, ⟨0, 4294967295⟩, ⟨0, 4294967295⟩, ⟨0, 4294967295⟩, ⟨0, 6⟩, ⟨0, 6⟩]
def t102 : VC :=
 (.loop 0 [(.lit 0), (.lit 0), (.lit 0), (.var 0), (.var 1), (.var 2), (.var 3), (.var 4), (.var 5), (.var 6)] [⟨0, 4294967295⟩, ⟨0, 1⟩, ⟨0, 6⟩, ⟨0, 4294967295⟩, ⟨0, 4294967295⟩, ⟨0, 4294967295⟩, ⟨0, 4294967295⟩, ⟨0, 4294967295⟩, ⟨0, 4294967295⟩, ⟨0, 4294967295⟩]
  (.ite (.lt (.var 18) (.var 15))
   (.need [(.b (.lt (.var 18) (.lit 6)))]
   (.bind (.ite (.eq (.var 18) (.lit 0)) (.var 7) (.ite (.eq (.var 18) (.lit 1)) (.var 8) (.ite (.eq (.var 18) (.lit 2)) (.var 9) (.ite (.eq (.var 18) (.lit 3)) (.var 10) (.ite (.eq (.var 18) (.lit 4)) (.var 11) (.var 12))))))
   (.bind (.add (.mul (.var 13) (.var 26)) (.var 16))
   (.bind (.div (.var 27) (.lit 4294967296))
   (.need [(.b (.lt (.add (.var 14) (.var 18)) (.lit 7)))]
   (.bind (.ite (.eq (.add (.var 14) (.var 18)) (.lit 0)) (.var 19) (.ite (.eq (.add (.var 14) (.var 18)) (.lit 1)) (.var 20) (.ite (.eq (.add (.var 14) (.var 18)) (.lit 2)) (.var 21) (.ite (.eq (.add (.var 14) (.var 18)) (.lit 3)) (.var 22) (.ite (.eq (.add (.var 14) (.var 18)) (.lit 4)) (.var 23) (.ite (.eq (.add (.var 14) (.var 18)) (.lit 5)) (.var 24) (.var 25)))))))
   (.bind (.wrap .u64 (.sub (.wrap .u64 (.sub (.var 29) (.wrap .u32 (.var 27)))) (.var 17)))
   (.need [(.b (.lt (.add (.var 14) (.var 18)) (.lit 7)))]
   (.bind (.ite (.eq (.add (.var 14) (.var 18)) (.lit 0)) (.wrap .u32 (.var 30)) (.var 19))
   (.bind (.ite (.eq (.add (.var 14) (.var 18)) (.lit 1)) (.wrap .u32 (.var 30)) (.var 20))
   (.bind (.ite (.eq (.add (.var 14) (.var 18)) (.lit 2)) (.wrap .u32 (.var 30)) (.var 21))
   (.bind (.ite (.eq (.add (.var 14) (.var 18)) (.lit 3)) (.wrap .u32 (.var 30)) (.var 22))
   (.bind (.ite (.eq (.add (.var 14) (.var 18)) (.lit 4)) (.wrap .u32 (.var 30)) (.var 23))
   (.bind (.ite (.eq (.add (.var 14) (.var 18)) (.lit 5)) (.wrap .u32 (.var 30)) (.var 24))
   (.bind (.ite (.eq (.add (.var 14) (.var 18)) (.lit 6)) (.wrap .u32 (.var 30)) (.var 25))
   (.bind (.div (.var 30) (.lit 9223372036854775808))
   (.again 0 16 [⟨0, 4294967295⟩, ⟨0, 1⟩, ⟨0, 6⟩, ⟨0, 4294967295⟩, ⟨0, 4294967295⟩, ⟨0, 4294967295⟩, ⟨0, 4294967295⟩, ⟨0, 4294967295⟩, ⟨0, 4294967295⟩, ⟨0, 4294967295⟩] [(.var 28), (.var 38), (.add (.var 18) (.lit 1)), (.var 31), (.var 32), (.var 33), (.var 34), (.var 35), (.var 36), (.var 37)])))))))))))))))))
   (.need [(.b (.lt (.add (.var 14) (.var 15)) (.lit 7)))]
   (.bind (.ite (.eq (.add (.var 14) (.var 15)) (.lit 0)) (.var 19) (.ite (.eq (.add (.var 14) (.var 15)) (.lit 1)) (.var 20) (.ite (.eq (.add (.var 14) (.var 15)) (.lit 2)) (.var 21) (.ite (.eq (.add (.var 14) (.var 15)) (.lit 3)) (.var 22) (.ite (.eq (.add (.var 14) (.var 15)) (.lit 4)) (.var 23) (.ite (.eq (.add (.var 14) (.var 15)) (.lit 5)) (.var 24) (.var 25)))))))
   (.bind (.wrap .u64 (.sub (.wrap .u64 (.sub (.var 26) (.var 16))) (.var 17)))
   (.need [(.b (.lt (.add (.var 14) (.var 15)) (.lit 7)))]
   (.bind (.ite (.eq (.add (.var 14) (.var 15)) (.lit 0)) (.wrap .u32 (.var 27)) (.var 19))
   (.bind (.ite (.eq (.add (.var 14) (.var 15)) (.lit 1)) (.wrap .u32 (.var 27)) (.var 20))
   (.bind (.ite (.eq (.add (.var 14) (.var 15)) (.lit 2)) (.wrap .u32 (.var 27)) (.var 21))
   (.bind (.ite (.eq (.add (.var 14) (.var 15)) (.lit 3)) (.wrap .u32 (.var 27)) (.var 22))
   (.bind (.ite (.eq (.add (.var 14) (.var 15)) (.lit 4)) (.wrap .u32 (.var 27)) (.var 23))
   (.bind (.ite (.eq (.add (.var 14) (.var 15)) (.lit 5)) (.wrap .u32 (.var 27)) (.var 24))
   (.bind (.ite (.eq (.add (.var 14) (.var 15)) (.lit 6)) (.wrap .u32 (.var 27)) (.var 25))
   (.bind (.ite (.not (.eq (.div (.var 27) (.lit 9223372036854775808)) (.lit 0))) (.lit 1) (.lit 0))
   (.fin (.e (.var 28) (.e (.var 29) (.e (.var 30) (.e (.var 31) (.e (.var 32) (.e (.var 33) (.e (.var 34) (.e (.var 35) .nil)))))))))))))))))))))))
theorem v102 : vcOfI ⟨c102, [(3, ⟨0, [12, 13, 19], [0], [20, 21, 14, 22, 23, 24, 25, 26, 27, 28, 29, 15, 30, 31, 32, 33, 34, 35, 36, 37, 38, 39, 40, 41, 42, 43, 16, 44, 45, 46, 47, 48, 49, 50, 51, 52, 56, 68], [⟨0, 4294967295⟩, ⟨0, 1⟩, ⟨0, 6⟩, ⟨0, 4294967295⟩, ⟨0, 4294967295⟩, ⟨0, 4294967295⟩, ⟨0, 4294967295⟩, ⟨0, 4294967295⟩, ⟨0, 4294967295⟩, ⟨0, 4294967295⟩]⟩)]⟩ iv102 250 Try.f102 s102 = t102 := by kernel_rfl
set_option linter.unusedVariables false in
def p102 (T : Tab) (I : Nat → List Int → List Int → Prop) (M : Nat → List Int → List Int → Nat) (pre : Nat → List Int → Prop) (post : List Int → Prop) (v0 v1 v2 v3 v4 v5 v6 v7 v8 v9 v10 v11 v12 v13 v14 v15 : Int) : Prop :=
 ((allHas [⟨0, 4294967295⟩, ⟨0, 1⟩, ⟨0, 6⟩, ⟨0, 4294967295⟩, ⟨0, 4294967295⟩, ⟨0, 4294967295⟩, ⟨0, 4294967295⟩, ⟨0, 4294967295⟩, ⟨0, 4294967295⟩, ⟨0, 4294967295⟩] [0, 0, 0, v0, v1, v2, v3, v4, v5, v6] ∧ I 0 [v0, v1, v2, v3, v4, v5, v6, v7, v8, v9, v10, v11, v12, v13, v14, v15] [0, 0, 0, v0, v1, v2, v3, v4, v5, v6]) ∧ ∀ v16 v17 v18 v19 v20 v21 v22 v23 v24 v25 : Int, allHas [⟨0, 4294967295⟩, ⟨0, 1⟩, ⟨0, 6⟩, ⟨0, 4294967295⟩, ⟨0, 4294967295⟩, ⟨0, 4294967295⟩, ⟨0, 4294967295⟩, ⟨0, 4294967295⟩, ⟨0, 4294967295⟩, ⟨0, 4294967295⟩] [v16, v17, v18, v19, v20, v21, v22, v23, v24, v25] → I 0 [v0, v1, v2, v3, v4, v5, v6, v7, v8, v9, v10, v11, v12, v13, v14, v15] [v16, v17, v18, v19, v20, v21, v22, v23, v24, v25] →
  ((decide ((v18 : Int) < v15) = true →
   ((decide ((v18 : Int) < 6) = true) ∧ ((decide ((v18 : Int) < 6) = true) →
   ∀ v26 : Int, v26 = (if decide ((v18 : Int) = 0) = true then v7 else (if decide ((v18 : Int) = 1) = true then v8 else (if decide ((v18 : Int) = 2) = true then v9 else (if decide ((v18 : Int) = 3) = true then v10 else (if decide ((v18 : Int) = 4) = true then v11 else v12))))) →
   ∀ v27 : Int, v27 = ((v13 * v26) + v16) →
   ∀ v28 : Int, v28 = (v27 / 4294967296) →
   ((decide (((v14 + v18) : Int) < 7) = true) ∧ ((decide (((v14 + v18) : Int) < 7) = true) →
   ∀ v29 : Int, v29 = (if decide (((v14 + v18) : Int) = 0) = true then v19 else (if decide (((v14 + v18) : Int) = 1) = true then v20 else (if decide (((v14 + v18) : Int) = 2) = true then v21 else (if decide (((v14 + v18) : Int) = 3) = true then v22 else (if decide (((v14 + v18) : Int) = 4) = true then v23 else (if decide (((v14 + v18) : Int) = 5) = true then v24 else v25)))))) →
   ∀ v30 : Int, v30 = (IntKind.wrap .u64 ((IntKind.wrap .u64 (v29 - (IntKind.wrap .u32 v27))) - v17)) →
   ((decide (((v14 + v18) : Int) < 7) = true) ∧ ((decide (((v14 + v18) : Int) < 7) = true) →
   ∀ v31 : Int, v31 = (if decide (((v14 + v18) : Int) = 0) = true then (IntKind.wrap .u32 v30) else v19) →
   ∀ v32 : Int, v32 = (if decide (((v14 + v18) : Int) = 1) = true then (IntKind.wrap .u32 v30) else v20) →
   ∀ v33 : Int, v33 = (if decide (((v14 + v18) : Int) = 2) = true then (IntKind.wrap .u32 v30) else v21) →
   ∀ v34 : Int, v34 = (if decide (((v14 + v18) : Int) = 3) = true then (IntKind.wrap .u32 v30) else v22) →
   ∀ v35 : Int, v35 = (if decide (((v14 + v18) : Int) = 4) = true then (IntKind.wrap .u32 v30) else v23) →
   ∀ v36 : Int, v36 = (if decide (((v14 + v18) : Int) = 5) = true then (IntKind.wrap .u32 v30) else v24) →
   ∀ v37 : Int, v37 = (if decide (((v14 + v18) : Int) = 6) = true then (IntKind.wrap .u32 v30) else v25) →
   ∀ v38 : Int, v38 = (v30 / 9223372036854775808) →
   (allHas [⟨0, 4294967295⟩, ⟨0, 1⟩, ⟨0, 6⟩, ⟨0, 4294967295⟩, ⟨0, 4294967295⟩, ⟨0, 4294967295⟩, ⟨0, 4294967295⟩, ⟨0, 4294967295⟩, ⟨0, 4294967295⟩, ⟨0, 4294967295⟩] [v28, v38, (v18 + 1), v31, v32, v33, v34, v35, v36, v37] ∧ I 0 [v0, v1, v2, v3, v4, v5, v6, v7, v8, v9, v10, v11, v12, v13, v14, v15] [v28, v38, (v18 + 1), v31, v32, v33, v34, v35, v36, v37] ∧ M 0 [v0, v1, v2, v3, v4, v5, v6, v7, v8, v9, v10, v11, v12, v13, v14, v15] [v28, v38, (v18 + 1), v31, v32, v33, v34, v35, v36, v37] < M 0 [v0, v1, v2, v3, v4, v5, v6, v7, v8, v9, v10, v11, v12, v13, v14, v15] [v16, v17, v18, v19, v20, v21, v22, v23, v24, v25])))))))) ∧ (decide ((v18 : Int) < v15) = false →
   ((decide (((v14 + v15) : Int) < 7) = true) ∧ ((decide (((v14 + v15) : Int) < 7) = true) →
   ∀ v26 : Int, v26 = (if decide (((v14 + v15) : Int) = 0) = true then v19 else (if decide (((v14 + v15) : Int) = 1) = true then v20 else (if decide (((v14 + v15) : Int) = 2) = true then v21 else (if decide (((v14 + v15) : Int) = 3) = true then v22 else (if decide (((v14 + v15) : Int) = 4) = true then v23 else (if decide (((v14 + v15) : Int) = 5) = true then v24 else v25)))))) →
   ∀ v27 : Int, v27 = (IntKind.wrap .u64 ((IntKind.wrap .u64 (v26 - v16)) - v17)) →
   ((decide (((v14 + v15) : Int) < 7) = true) ∧ ((decide (((v14 + v15) : Int) < 7) = true) →
   ∀ v28 : Int, v28 = (if decide (((v14 + v15) : Int) = 0) = true then (IntKind.wrap .u32 v27) else v19) →
   ∀ v29 : Int, v29 = (if decide (((v14 + v15) : Int) = 1) = true then (IntKind.wrap .u32 v27) else v20) →
   ∀ v30 : Int, v30 = (if decide (((v14 + v15) : Int) = 2) = true then (IntKind.wrap .u32 v27) else v21) →
   ∀ v31 : Int, v31 = (if decide (((v14 + v15) : Int) = 3) = true then (IntKind.wrap .u32 v27) else v22) →
   ∀ v32 : Int, v32 = (if decide (((v14 + v15) : Int) = 4) = true then (IntKind.wrap .u32 v27) else v23) →
   ∀ v33 : Int, v33 = (if decide (((v14 + v15) : Int) = 5) = true then (IntKind.wrap .u32 v27) else v24) →
   ∀ v34 : Int, v34 = (if decide (((v14 + v15) : Int) = 6) = true then (IntKind.wrap .u32 v27) else v25) →
   ∀ v35 : Int, v35 = (if (!decide (((v27 / 9223372036854775808) : Int) = 0)) = true then 1 else 0) →
   post [v28, v29, v30, v31, v32, v33, v34, v35])))))))
theorem q102 (T : Tab) (I : Nat → List Int → List Int → Prop) (M : Nat → List Int → List Int → Nat) (pre : Nat → List Int → Prop) (post : List Int → Prop) (v0 v1 v2 v3 v4 v5 v6 v7 v8 v9 v10 v11 v12 v13 v14 v15 : Int) : t102.plain T (presL pre I M) post ⟨[v0, v1, v2, v3, v4, v5, v6, v7, v8, v9, v10, v11, v12, v13, v14, v15], []⟩ = p102 T I M pre post v0 v1 v2 v3 v4 v5 v6 v7 v8 v9 v10 v11 v12 v13 v14 v15 := by kernel_rfl
theorem k102 (T : Tab) (I : Nat → List Int → List Int → Prop) (M : Nat → List Int → List Int → Nat) (pre : Nat → List Int → Prop) (hs : SubSig T c102.sigs) (ht : Tot pre c102.sigs) (hg : T.sig 102 = some s102) (hC : CtAll Try.prog T.fns (pres pre) c102.sigs) (hi : ∀ xs, pre 102 xs → allHas iv102 xs)
    (h : ∀ (v0 v1 v2 v3 v4 v5 v6 v7 v8 v9 v10 v11 v12 v13 v14 v15 : Int), (0 ≤ v0 ∧ v0 ≤ 4294967295) → (0 ≤ v1 ∧ v1 ≤ 4294967295) → (0 ≤ v2 ∧ v2 ≤ 4294967295) → (0 ≤ v3 ∧ v3 ≤ 4294967295) → (0 ≤ v4 ∧ v4 ≤ 4294967295) → (0 ≤ v5 ∧ v5 ≤ 4294967295) → (0 ≤ v6 ∧ v6 ≤ 4294967295) → (0 ≤ v7 ∧ v7 ≤ 4294967295) → (0 ≤ v8 ∧ v8 ≤ 4294967295) → (0 ≤ v9 ∧ v9 ≤ 4294967295) → (0 ≤ v10 ∧ v10 ≤ 4294967295) → (0 ≤ v11 ∧ v11 ≤ 4294967295) → (0 ≤ v12 ∧ v12 ≤ 4294967295) → (0 ≤ v13 ∧ v13 ≤ 4294967295) → (0 ≤ v14 ∧ v14 ≤ 6) → (0 ≤ v15 ∧ v15 ≤ 6) → pre 102 [v0, v1, v2, v3, v4, v5, v6, v7, v8, v9, v10, v11, v12, v13, v14, v15] → p102 T I M pre (fun ys => ys = T.fn 102 [v0, v1, v2, v3, v4, v5, v6, v7, v8, v9, v10, v11, v12, v13, v14, v15]) v0 v1 v2 v3 v4 v5 v6 v7 v8 v9 v10 v11 v12 v13 v14 v15) : CT Try.prog T.fns (pres pre) 102 s102 :=
  T.ctq (F := ⟨c102, [(3, ⟨0, [12, 13, 19], [0], [20, 21, 14, 22, 23, 24, 25, 26, 27, 28, 29, 15, 30, 31, 32, 33, 34, 35, 36, 37, 38, 39, 40, 41, 42, 43, 16, 44, 45, 46, 47, 48, 49, 50, 51, 52, 56, 68], [⟨0, 4294967295⟩, ⟨0, 1⟩, ⟨0, 6⟩, ⟨0, 4294967295⟩, ⟨0, 4294967295⟩, ⟨0, 4294967295⟩, ⟨0, 4294967295⟩, ⟨0, 4294967295⟩, ⟨0, 4294967295⟩, ⟨0, 4294967295⟩]⟩)]⟩) (fuel := 250) v102 Try.checked.mixed hs ht hg hC Try.func102 I M (fun xs _ h => hi xs h) fun xs hx hp => by
    match xs, hx, hp with
    | [v0, v1, v2, v3, v4, v5, v6, v7, v8, v9, v10, v11, v12, v13, v14, v15], hx, hp => rw [q102]; exact h v0 v1 v2 v3 v4 v5 v6 v7 v8 v9 v10 v11 v12 v13 v14 v15 hx.1 hx.2.1 hx.2.2.1 hx.2.2.2.1 hx.2.2.2.2.1 hx.2.2.2.2.2.1 hx.2.2.2.2.2.2.1 hx.2.2.2.2.2.2.2.1 hx.2.2.2.2.2.2.2.2.1 hx.2.2.2.2.2.2.2.2.2.1 hx.2.2.2.2.2.2.2.2.2.2.1 hx.2.2.2.2.2.2.2.2.2.2.2.1 hx.2.2.2.2.2.2.2.2.2.2.2.2.1 hx.2.2.2.2.2.2.2.2.2.2.2.2.2.1 hx.2.2.2.2.2.2.2.2.2.2.2.2.2.2.1 hx.2.2.2.2.2.2.2.2.2.2.2.2.2.2.2.1 hp

/-- (loop.example/g01242/impl.limbRow).giveBack -/
noncomputable def c103 : Cfg := ⟨Try.prog, []⟩
def iv103 : List Iv := [⟨0, 4294967295⟩, ⟨0, 4294967295⟩, ⟨0, 4294967295⟩, ⟨0, 4294967295⟩, ⟨0, 4294967295⟩, ⟨0, 4294967295⟩, ⟨0, 4294967295⟩, ⟨0, 4294967295⟩, ⟨0, 4294967295⟩, ⟨0, 4294967295⟩, ⟨0, 4294967295⟩, ⟨0, 4294967295⟩, ⟨0, 4294967295⟩, ⟨0, 6⟩, ⟨0, 6⟩]
def t103 : VC :=
 (.loop 0 [(.lit 0), (.lit 0), (.var 0), (.var 1), (.var 2), (.var 3), (.var 4), (.var 5), (.var 6)] [⟨0, 1⟩, ⟨0, 6⟩, ⟨0, 4294967295⟩, ⟨0, 4294967295⟩, ⟨0, 4294967295⟩, ⟨0, 4294967295⟩, ⟨0, 4294967295⟩, ⟨0, 4294967295⟩, ⟨0, 4294967295⟩]
  (.ite (.lt (.var 16) (.var 14))
   (.need [(.b (.lt (.add (.var 13) (.var 16)) (.lit 7))), (.b (.lt (.var 16) (.lit 6)))]
   (.bind (.ite (.eq (.add (.var 13) (.var 16)) (.lit 0)) (.var 17) (.ite (.eq (.add (.var 13) (.var 16)) (.lit 1)) (.var 18) (.ite (.eq (.add (.var 13) (.var 16)) (.lit 2)) (.var 19) (.ite (.eq (.add (.var 13) (.var 16)) (.lit 3)) (.var 20) (.ite (.eq (.add (.var 13) (.var 16)) (.lit 4)) (.var 21) (.ite (.eq (.add (.var 13) (.var 16)) (.lit 5)) (.var 22) (.var 23)))))))
   (.bind (.ite (.eq (.var 16) (.lit 0)) (.var 7) (.ite (.eq (.var 16) (.lit 1)) (.var 8) (.ite (.eq (.var 16) (.lit 2)) (.var 9) (.ite (.eq (.var 16) (.lit 3)) (.var 10) (.ite (.eq (.var 16) (.lit 4)) (.var 11) (.var 12))))))
   (.bind (.add (.add (.ite (.eq (.add (.var 13) (.var 16)) (.lit 0)) (.var 17) (.ite (.eq (.add (.var 13) (.var 16)) (.lit 1)) (.var 18) (.ite (.eq (.add (.var 13) (.var 16)) (.lit 2)) (.var 19) (.ite (.eq (.add (.var 13) (.var 16)) (.lit 3)) (.var 20) (.ite (.eq (.add (.var 13) (.var 16)) (.lit 4)) (.var 21) (.ite (.eq (.add (.var 13) (.var 16)) (.lit 5)) (.var 22) (.var 23))))))) (.ite (.eq (.var 16) (.lit 0)) (.var 7) (.ite (.eq (.var 16) (.lit 1)) (.var 8) (.ite (.eq (.var 16) (.lit 2)) (.var 9) (.ite (.eq (.var 16) (.lit 3)) (.var 10) (.ite (.eq (.var 16) (.lit 4)) (.var 11) (.var 12))))))) (.var 15))
   (.need [(.b (.lt (.add (.var 13) (.var 16)) (.lit 7)))]
   (.bind (.ite (.eq (.add (.var 13) (.var 16)) (.lit 0)) (.wrap .u32 (.var 26)) (.var 17))
   (.bind (.ite (.eq (.add (.var 13) (.var 16)) (.lit 1)) (.wrap .u32 (.var 26)) (.var 18))
   (.bind (.ite (.eq (.add (.var 13) (.var 16)) (.lit 2)) (.wrap .u32 (.var 26)) (.var 19))
   (.bind (.ite (.eq (.add (.var 13) (.var 16)) (.lit 3)) (.wrap .u32 (.var 26)) (.var 20))
   (.bind (.ite (.eq (.add (.var 13) (.var 16)) (.lit 4)) (.wrap .u32 (.var 26)) (.var 21))
   (.bind (.ite (.eq (.add (.var 13) (.var 16)) (.lit 5)) (.wrap .u32 (.var 26)) (.var 22))
   (.bind (.ite (.eq (.add (.var 13) (.var 16)) (.lit 6)) (.wrap .u32 (.var 26)) (.var 23))
   (.bind (.div (.var 26) (.lit 4294967296))
   (.again 0 15 [⟨0, 1⟩, ⟨0, 6⟩, ⟨0, 4294967295⟩, ⟨0, 4294967295⟩, ⟨0, 4294967295⟩, ⟨0, 4294967295⟩, ⟨0, 4294967295⟩, ⟨0, 4294967295⟩, ⟨0, 4294967295⟩] [(.var 34), (.add (.var 16) (.lit 1)), (.var 27), (.var 28), (.var 29), (.var 30), (.var 31), (.var 32), (.var 33)]))))))))))))))
   (.need [(.b (.lt (.add (.var 13) (.var 14)) (.lit 7)))]
   (.bind (.ite (.eq (.add (.var 13) (.var 14)) (.lit 0)) (.var 17) (.ite (.eq (.add (.var 13) (.var 14)) (.lit 1)) (.var 18) (.ite (.eq (.add (.var 13) (.var 14)) (.lit 2)) (.var 19) (.ite (.eq (.add (.var 13) (.var 14)) (.lit 3)) (.var 20) (.ite (.eq (.add (.var 13) (.var 14)) (.lit 4)) (.var 21) (.ite (.eq (.add (.var 13) (.var 14)) (.lit 5)) (.var 22) (.var 23)))))))
   (.need [(.b (.lt (.add (.var 13) (.var 14)) (.lit 7)))]
   (.bind (.ite (.eq (.add (.var 13) (.var 14)) (.lit 0)) (.wrap .u32 (.add (.var 24) (.var 15))) (.var 17))
   (.bind (.ite (.eq (.add (.var 13) (.var 14)) (.lit 1)) (.wrap .u32 (.add (.var 24) (.var 15))) (.var 18))
   (.bind (.ite (.eq (.add (.var 13) (.var 14)) (.lit 2)) (.wrap .u32 (.add (.var 24) (.var 15))) (.var 19))
   (.bind (.ite (.eq (.add (.var 13) (.var 14)) (.lit 3)) (.wrap .u32 (.add (.var 24) (.var 15))) (.var 20))
   (.bind (.ite (.eq (.add (.var 13) (.var 14)) (.lit 4)) (.wrap .u32 (.add (.var 24) (.var 15))) (.var 21))
   (.bind (.ite (.eq (.add (.var 13) (.var 14)) (.lit 5)) (.wrap .u32 (.add (.var 24) (.var 15))) (.var 22))
   (.bind (.ite (.eq (.add (.var 13) (.var 14)) (.lit 6)) (.wrap .u32 (.add (.var 24) (.var 15))) (.var 23))
   (.fin (.e (.var 25) (.e (.var 26) (.e (.var 27) (.e (.var 28) (.e (.var 29) (.e (.var 30) (.e (.var 31) .nil))))))))))))))))))))
theorem v103 : vcOfI ⟨c103, [(3, ⟨0, [9, 13], [0], [14, 15, 10, 16, 17, 18, 19, 20, 21, 22, 23, 24, 25, 26, 27, 28, 11, 29, 30, 31, 32, 33, 34, 35, 36, 37, 41, 46], [⟨0, 1⟩, ⟨0, 6⟩, ⟨0, 4294967295⟩, ⟨0, 4294967295⟩, ⟨0, 4294967295⟩, ⟨0, 4294967295⟩, ⟨0, 4294967295⟩, ⟨0, 4294967295⟩, ⟨0, 4294967295⟩]⟩)]⟩ iv103 250 Try.f103 s103 = t103 := by kernel_rfl
set_option linter.unusedVariables false in
def p103 (T : Tab) (I : Nat → List Int → List Int → Prop) (M : Nat → List Int → List Int → Nat) (pre : Nat → List Int → Prop) (post : List Int → Prop) (v0 v1 v2 v3 v4 v5 v6 v7 v8 v9 v10 v11 v12 v13 v14 : Int) : Prop :=
 ((allHas [⟨0, 1⟩, ⟨0, 6⟩, ⟨0, 4294967295⟩, ⟨0, 4294967295⟩, ⟨0, 4294967295⟩, ⟨0, 4294967295⟩, ⟨0, 4294967295⟩, ⟨0, 4294967295⟩, ⟨0, 4294967295⟩] [0, 0, v0, v1, v2, v3, v4, v5, v6] ∧ I 0 [v0, v1, v2, v3, v4, v5, v6, v7, v8, v9, v10, v11, v12, v13, v14] [0, 0, v0, v1, v2, v3, v4, v5, v6]) ∧ ∀ v15 v16 v17 v18 v19 v20 v21 v22 v23 : Int, allHas [⟨0, 1⟩, ⟨0, 6⟩, ⟨0, 4294967295⟩, ⟨0, 4294967295⟩, ⟨0, 4294967295⟩, ⟨0, 4294967295⟩, ⟨0, 4294967295⟩, ⟨0, 4294967295⟩, ⟨0, 4294967295⟩] [v15, v16, v17, v18, v19, v20, v21, v22, v23] → I 0 [v0, v1, v2, v3, v4, v5, v6, v7, v8, v9, v10, v11, v12, v13, v14] [v15, v16, v17, v18, v19, v20, v21, v22, v23] →
  ((decide ((v16 : Int) < v14) = true →
   ((decide (((v13 + v16) : Int) < 7) = true ∧ decide ((v16 : Int) < 6) = true) ∧ ((decide (((v13 + v16) : Int) < 7) = true ∧ decide ((v16 : Int) < 6) = true) →
   ∀ v24 : Int, v24 = (if decide (((v13 + v16) : Int) = 0) = true then v17 else (if decide (((v13 + v16) : Int) = 1) = true then v18 else (if decide (((v13 + v16) : Int) = 2) = true then v19 else (if decide (((v13 + v16) : Int) = 3) = true then v20 else (if decide (((v13 + v16) : Int) = 4) = true then v21 else (if decide (((v13 + v16) : Int) = 5) = true then v22 else v23)))))) →
   ∀ v25 : Int, v25 = (if decide ((v16 : Int) = 0) = true then v7 else (if decide ((v16 : Int) = 1) = true then v8 else (if decide ((v16 : Int) = 2) = true then v9 else (if decide ((v16 : Int) = 3) = true then v10 else (if decide ((v16 : Int) = 4) = true then v11 else v12))))) →
   ∀ v26 : Int, v26 = (((if decide (((v13 + v16) : Int) = 0) = true then v17 else (if decide (((v13 + v16) : Int) = 1) = true then v18 else (if decide (((v13 + v16) : Int) = 2) = true then v19 else (if decide (((v13 + v16) : Int) = 3) = true then v20 else (if decide (((v13 + v16) : Int) = 4) = true then v21 else (if decide (((v13 + v16) : Int) = 5) = true then v22 else v23)))))) + (if decide ((v16 : Int) = 0) = true then v7 else (if decide ((v16 : Int) = 1) = true then v8 else (if decide ((v16 : Int) = 2) = true then v9 else (if decide ((v16 : Int) = 3) = true then v10 else (if decide ((v16 : Int) = 4) = true then v11 else v12)))))) + v15) →
   ((decide (((v13 + v16) : Int) < 7) = true) ∧ ((decide (((v13 + v16) : Int) < 7) = true) →
   ∀ v27 : Int, v27 = (if decide (((v13 + v16) : Int) = 0) = true then (IntKind.wrap .u32 v26) else v17) →
   ∀ v28 : Int, v28 = (if decide (((v13 + v16) : Int) = 1) = true then (IntKind.wrap .u32 v26) else v18) →
   ∀ v29 : Int, v29 = (if decide (((v13 + v16) : Int) = 2) = true then (IntKind.wrap .u32 v26) else v19) →
   ∀ v30 : Int, v30 = (if decide (((v13 + v16) : Int) = 3) = true then (IntKind.wrap .u32 v26) else v20) →
   ∀ v31 : Int, v31 = (if decide (((v13 + v16) : Int) = 4) = true then (IntKind.wrap .u32 v26) else v21) →
   ∀ v32 : Int, v32 = (if decide (((v13 + v16) : Int) = 5) = true then (IntKind.wrap .u32 v26) else v22) →
   ∀ v33 : Int, v33 = (if decide (((v13 + v16) : Int) = 6) = true then (IntKind.wrap .u32 v26) else v23) →
   ∀ v34 : Int, v34 = (v26 / 4294967296) →
   (allHas [⟨0, 1⟩, ⟨0, 6⟩, ⟨0, 4294967295⟩, ⟨0, 4294967295⟩, ⟨0, 4294967295⟩, ⟨0, 4294967295⟩, ⟨0, 4294967295⟩, ⟨0, 4294967295⟩, ⟨0, 4294967295⟩] [v34, (v16 + 1), v27, v28, v29, v30, v31, v32, v33] ∧ I 0 [v0, v1, v2, v3, v4, v5, v6, v7, v8, v9, v10, v11, v12, v13, v14] [v34, (v16 + 1), v27, v28, v29, v30, v31, v32, v33] ∧ M 0 [v0, v1, v2, v3, v4, v5, v6, v7, v8, v9, v10, v11, v12, v13, v14] [v34, (v16 + 1), v27, v28, v29, v30, v31, v32, v33] < M 0 [v0, v1, v2, v3, v4, v5, v6, v7, v8, v9, v10, v11, v12, v13, v14] [v15, v16, v17, v18, v19, v20, v21, v22, v23])))))) ∧ (decide ((v16 : Int) < v14) = false →
   ((decide (((v13 + v14) : Int) < 7) = true) ∧ ((decide (((v13 + v14) : Int) < 7) = true) →
   ∀ v24 : Int, v24 = (if decide (((v13 + v14) : Int) = 0) = true then v17 else (if decide (((v13 + v14) : Int) = 1) = true then v18 else (if decide (((v13 + v14) : Int) = 2) = true then v19 else (if decide (((v13 + v14) : Int) = 3) = true then v20 else (if decide (((v13 + v14) : Int) = 4) = true then v21 else (if decide (((v13 + v14) : Int) = 5) = true then v22 else v23)))))) →
   ((decide (((v13 + v14) : Int) < 7) = true) ∧ ((decide (((v13 + v14) : Int) < 7) = true) →
   ∀ v25 : Int, v25 = (if decide (((v13 + v14) : Int) = 0) = true then (IntKind.wrap .u32 (v24 + v15)) else v17) →
   ∀ v26 : Int, v26 = (if decide (((v13 + v14) : Int) = 1) = true then (IntKind.wrap .u32 (v24 + v15)) else v18) →
   ∀ v27 : Int, v27 = (if decide (((v13 + v14) : Int) = 2) = true then (IntKind.wrap .u32 (v24 + v15)) else v19) →
   ∀ v28 : Int, v28 = (if decide (((v13 + v14) : Int) = 3) = true then (IntKind.wrap .u32 (v24 + v15)) else v20) →
   ∀ v29 : Int, v29 = (if decide (((v13 + v14) : Int) = 4) = true then (IntKind.wrap .u32 (v24 + v15)) else v21) →
   ∀ v30 : Int, v30 = (if decide (((v13 + v14) : Int) = 5) = true then (IntKind.wrap .u32 (v24 + v15)) else v22) →
   ∀ v31 : Int, v31 = (if decide (((v13 + v14) : Int) = 6) = true then (IntKind.wrap .u32 (v24 + v15)) else v23) →
   post [v25, v26, v27, v28, v29, v30, v31])))))))
theorem q103 (T : Tab) (I : Nat → List Int → List Int → Prop) (M : Nat → List Int → List Int → Nat) (pre : Nat → List Int → Prop) (post : List Int → Prop) (v0 v1 v2 v3 v4 v5 v6 v7 v8 v9 v10 v11 v12 v13 v14 : Int) : t103.plain T (presL pre I M) post ⟨[v0, v1, v2, v3, v4, v5, v6, v7, v8, v9, v10, v11, v12, v13, v14], []⟩ = p103 T I M pre post v0 v1 v2 v3 v4 v5 v6 v7 v8 v9 v10 v11 v12 v13 v14 := by kernel_rfl
theorem k103 (T : Tab) (I : Nat → List Int → List Int → Prop) (M : Nat → List Int → List Int → Nat) (pre : Nat → List Int → Prop) (hs : SubSig T c103.sigs) (ht : Tot pre c103.sigs) (hg : T.sig 103 = some s103) (hC : CtAll Try.prog T.fns (pres pre) c103.sigs) (hi : ∀ xs, pre 103 xs → allHas iv103 xs)
    (h : ∀ (v0 v1 v2 v3 v4 v5 v6 v7 v8 v9 v10 v11 v12 v13 v14 : Int), (0 ≤ v0 ∧ v0 ≤ 4294967295) → (0 ≤ v1 ∧ v1 ≤ 4294967295) → (0 ≤ v2 ∧ v2 ≤ 4294967295) → (0 ≤ v3 ∧ v3 ≤ 4294967295) → (0 ≤ v4 ∧ v4 ≤ 4294967295) → (0 ≤ v5 ∧ v5 ≤ 4294967295) → (0 ≤ v6 ∧ v6 ≤ 4294967295) → (0 ≤ v7 ∧ v7 ≤ 4294967295) → (0 ≤ v8 ∧ v8 ≤ 4294967295) → (0 ≤ v9 ∧ v9 ≤ 4294967295) → (0 ≤ v10 ∧ v10 ≤ 4294967295) → (0 ≤ v11 ∧ v11 ≤ 4294967295) → (0 ≤ v12 ∧ v12 ≤ 4294967295) → (0 ≤ v13 ∧ v13 ≤ 6) → (0 ≤ v14 ∧ v14 ≤ 6) → pre 103 [v0, v1, v2, v3, v4, v5, v6, v7, v8, v9, v10, v11, v12, v13, v14] → p103 T I M pre (fun ys => ys = T.fn 103 [v0, v1, v2, v3, v4, v5, v6, v7, v8, v9, v10, v11, v12, v13, v14]) v0 v1 v2 v3 v4 v5 v6 v7 v8 v9 v10 v11 v12 v13 v14) : CT Try.prog T.fns (pres pre) 103 s103 :=
  T.ctq (F := ⟨c103, [(3, ⟨0, [9, 13], [0], [14, 15, 10, 16, 17, 18, 19, 20, 21, 22, 23, 24, 25, 26, 27, 28, 11, 29, 30, 31, 32, 33, 34, 35, 36, 37, 41, 46], [⟨0, 1⟩, ⟨0, 6⟩, ⟨0, 4294967295⟩, ⟨0, 4294967295⟩, ⟨0, 4294967295⟩, ⟨0, 4294967295⟩, ⟨0, 4294967295⟩, ⟨0, 4294967295⟩, ⟨0, 4294967295⟩]⟩)]⟩) (fuel := 250) v103 Try.checked.mixed hs ht hg hC Try.func103 I M (fun xs _ h => hi xs h) fun xs hx hp => by
    match xs, hx, hp with
    | [v0, v1, v2, v3, v4, v5, v6, v7, v8, v9, v10, v11, v12, v13, v14], hx, hp => rw [q103]; exact h v0 v1 v2 v3 v4 v5 v6 v7 v8 v9 v10 v11 v12 v13 v14 hx.1 hx.2.1 hx.2.2.1 hx.2.2.2.1 hx.2.2.2.2.1 hx.2.2.2.2.2.1 hx.2.2.2.2.2.2.1 hx.2.2.2.2.2.2.2.1 hx.2.2.2.2.2.2.2.2.1 hx.2.2.2.2.2.2.2.2.2.1 hx.2.2.2.2.2.2.2.2.2.2.1 hx.2.2.2.2.2.2.2.2.2.2.2.1 hx.2.2.2.2.2.2.2.2.2.2.2.2.1 hx.2.2.2.2.2.2.2.2.2.2.2.2.2.1 hx.2.2.2.2.2.2.2.2.2.2.2.2.2.2.1 hp

end Go.Proofs.Ytmlmdicdblgcfaa.Sx

namespace Go.Proofs.Ytmlmdicdblgcfaa.Sx
open Go Go.RowKit
/-- (loop.example/g01242/impl.limbs).divideLong -/
noncomputable def c92 : Cfg := ⟨Try.prog, [(86, s86), (99, s99), (52, s52), (100, s100), (101, s101), (102, s102), (103, s103), (54, s54)]⟩
def iv92 : List Iv := [⟨0, 4294967295⟩, ⟨0, 4294967295⟩, ⟨0, 4294967295⟩, ⟨0, 4294967295⟩, ⟨0, 4294967295⟩, ⟨0, 4294967295⟩, ⟨0, 4294967295⟩, ⟨0, 4294967295⟩, ⟨0, 4294967295⟩, ⟨0, 4294967295⟩, ⟨0, 4294967295⟩, ⟨0, 4294967295⟩]
def t92 : VC :=
 (.call 86 (.e (.var 6) (.e (.var 7) (.e (.var 8) (.e (.var 9) (.e (.var 10) (.e (.var 11) .nil)))))) 1
 (.need [(.b (.le (.lit 0) (.sub (.var 12) (.lit 1))))]
 (.bind (.ite (.eq (.sub (.var 12) (.lit 1)) (.lit 0)) (.var 6) (.ite (.eq (.sub (.var 12) (.lit 1)) (.lit 1)) (.var 7) (.ite (.eq (.sub (.var 12) (.lit 1)) (.lit 2)) (.var 8) (.ite (.eq (.sub (.var 12) (.lit 1)) (.lit 3)) (.var 9) (.ite (.eq (.sub (.var 12) (.lit 1)) (.lit 4)) (.var 10) (.var 11))))))
 (.call 99 (.e (.var 13) .nil) 1
 (.need [(.pre 52 (.e (.var 6) (.e (.var 7) (.e (.var 8) (.e (.var 9) (.e (.var 10) (.e (.var 11) (.e (.var 14) .nil))))))))]
 (.call 52 (.e (.var 6) (.e (.var 7) (.e (.var 8) (.e (.var 9) (.e (.var 10) (.e (.var 11) (.e (.var 14) .nil))))))) 6
 (.need [(.pre 100 (.e (.var 0) (.e (.var 1) (.e (.var 2) (.e (.var 3) (.e (.var 4) (.e (.var 5) (.e (.var 14) .nil))))))))]
 (.call 100 (.e (.var 0) (.e (.var 1) (.e (.var 2) (.e (.var 3) (.e (.var 4) (.e (.var 5) (.e (.var 14) .nil))))))) 7
 (.bind (.sub (.lit 6) (.var 12))
 (.need [(.pre 101 (.e (.var 21) (.e (.var 22) (.e (.var 23) (.e (.var 24) (.e (.var 25) (.e (.var 26) (.e (.var 27) (.e (.var 15) (.e (.var 16) (.e (.var 17) (.e (.var 18) (.e (.var 19) (.e (.var 20) (.e (.var 28) (.e (.var 12) .nil))))))))))))))))]
 (.call 101 (.e (.var 21) (.e (.var 22) (.e (.var 23) (.e (.var 24) (.e (.var 25) (.e (.var 26) (.e (.var 27) (.e (.var 15) (.e (.var 16) (.e (.var 17) (.e (.var 18) (.e (.var 19) (.e (.var 20) (.e (.var 28) (.e (.var 12) .nil))))))))))))))) 1
 (.need [(.pre 102 (.e (.var 21) (.e (.var 22) (.e (.var 23) (.e (.var 24) (.e (.var 25) (.e (.var 26) (.e (.var 27) (.e (.var 15) (.e (.var 16) (.e (.var 17) (.e (.var 18) (.e (.var 19) (.e (.var 20) (.e (.var 29) (.e (.var 28) (.e (.var 12) .nil)))))))))))))))))]
 (.call 102 (.e (.var 21) (.e (.var 22) (.e (.var 23) (.e (.var 24) (.e (.var 25) (.e (.var 26) (.e (.var 27) (.e (.var 15) (.e (.var 16) (.e (.var 17) (.e (.var 18) (.e (.var 19) (.e (.var 20) (.e (.var 29) (.e (.var 28) (.e (.var 12) .nil)))))))))))))))) 8
 (.ite (.eq (.var 37) (.lit 1))
  (.bind (.wrap .u32 (.sub (.var 29) (.lit 1)))
  (.need [(.pre 103 (.e (.var 30) (.e (.var 31) (.e (.var 32) (.e (.var 33) (.e (.var 34) (.e (.var 35) (.e (.var 36) (.e (.var 15) (.e (.var 16) (.e (.var 17) (.e (.var 18) (.e (.var 19) (.e (.var 20) (.e (.var 28) (.e (.var 12) .nil))))))))))))))))]
  (.call 103 (.e (.var 30) (.e (.var 31) (.e (.var 32) (.e (.var 33) (.e (.var 34) (.e (.var 35) (.e (.var 36) (.e (.var 15) (.e (.var 16) (.e (.var 17) (.e (.var 18) (.e (.var 19) (.e (.var 20) (.e (.var 28) (.e (.var 12) .nil))))))))))))))) 7
  (.need [(.b (.lt (.var 28) (.lit 6)))]
  (.bind (.ite (.eq (.var 28) (.lit 0)) (.var 38) (.lit 0))
  (.bind (.ite (.eq (.var 28) (.lit 1)) (.var 38) (.lit 0))
  (.bind (.ite (.eq (.var 28) (.lit 2)) (.var 38) (.lit 0))
  (.bind (.ite (.eq (.var 28) (.lit 3)) (.var 38) (.lit 0))
  (.bind (.ite (.eq (.var 28) (.lit 4)) (.var 38) (.lit 0))
  (.bind (.ite (.eq (.var 28) (.lit 5)) (.var 38) (.lit 0))
  (.ite (.lt (.lit 0) (.var 28))
   (.loop 1 [(.sub (.var 28) (.lit 1)), (.var 39), (.var 40), (.var 41), (.var 42), (.var 43), (.var 44), (.var 45), (.var 46), (.var 47), (.var 48), (.var 49), (.var 50), (.var 51)] [⟨0, 6⟩, ⟨0, 4294967295⟩, ⟨0, 4294967295⟩, ⟨0, 4294967295⟩, ⟨0, 4294967295⟩, ⟨0, 4294967295⟩, ⟨0, 4294967295⟩, ⟨0, 4294967295⟩, ⟨0, 4294967295⟩, ⟨0, 4294967295⟩, ⟨0, 4294967295⟩, ⟨0, 4294967295⟩, ⟨0, 4294967295⟩, ⟨0, 4294967295⟩]
    (.need [(.pre 101 (.e (.var 53) (.e (.var 54) (.e (.var 55) (.e (.var 56) (.e (.var 57) (.e (.var 58) (.e (.var 59) (.e (.var 15) (.e (.var 16) (.e (.var 17) (.e (.var 18) (.e (.var 19) (.e (.var 20) (.e (.var 52) (.e (.var 12) .nil))))))))))))))))]
    (.call 101 (.e (.var 53) (.e (.var 54) (.e (.var 55) (.e (.var 56) (.e (.var 57) (.e (.var 58) (.e (.var 59) (.e (.var 15) (.e (.var 16) (.e (.var 17) (.e (.var 18) (.e (.var 19) (.e (.var 20) (.e (.var 52) (.e (.var 12) .nil))))))))))))))) 1
    (.need [(.pre 102 (.e (.var 53) (.e (.var 54) (.e (.var 55) (.e (.var 56) (.e (.var 57) (.e (.var 58) (.e (.var 59) (.e (.var 15) (.e (.var 16) (.e (.var 17) (.e (.var 18) (.e (.var 19) (.e (.var 20) (.e (.var 66) (.e (.var 52) (.e (.var 12) .nil)))))))))))))))))]
    (.call 102 (.e (.var 53) (.e (.var 54) (.e (.var 55) (.e (.var 56) (.e (.var 57) (.e (.var 58) (.e (.var 59) (.e (.var 15) (.e (.var 16) (.e (.var 17) (.e (.var 18) (.e (.var 19) (.e (.var 20) (.e (.var 66) (.e (.var 52) (.e (.var 12) .nil)))))))))))))))) 8
    (.ite (.eq (.var 74) (.lit 1))
     (.bind (.wrap .u32 (.sub (.var 66) (.lit 1)))
     (.need [(.pre 103 (.e (.var 67) (.e (.var 68) (.e (.var 69) (.e (.var 70) (.e (.var 71) (.e (.var 72) (.e (.var 73) (.e (.var 15) (.e (.var 16) (.e (.var 17) (.e (.var 18) (.e (.var 19) (.e (.var 20) (.e (.var 52) (.e (.var 12) .nil))))))))))))))))]
     (.call 103 (.e (.var 67) (.e (.var 68) (.e (.var 69) (.e (.var 70) (.e (.var 71) (.e (.var 72) (.e (.var 73) (.e (.var 15) (.e (.var 16) (.e (.var 17) (.e (.var 18) (.e (.var 19) (.e (.var 20) (.e (.var 52) (.e (.var 12) .nil))))))))))))))) 7
     (.need [(.b (.lt (.var 52) (.lit 6)))]
     (.bind (.ite (.eq (.var 52) (.lit 0)) (.var 75) (.var 60))
     (.bind (.ite (.eq (.var 52) (.lit 1)) (.var 75) (.var 61))
     (.bind (.ite (.eq (.var 52) (.lit 2)) (.var 75) (.var 62))
     (.bind (.ite (.eq (.var 52) (.lit 3)) (.var 75) (.var 63))
     (.bind (.ite (.eq (.var 52) (.lit 4)) (.var 75) (.var 64))
     (.bind (.ite (.eq (.var 52) (.lit 5)) (.var 75) (.var 65))
     (.ite (.lt (.lit 0) (.var 52))
      (.again 1 52 [⟨0, 6⟩, ⟨0, 4294967295⟩, ⟨0, 4294967295⟩, ⟨0, 4294967295⟩, ⟨0, 4294967295⟩, ⟨0, 4294967295⟩, ⟨0, 4294967295⟩, ⟨0, 4294967295⟩, ⟨0, 4294967295⟩, ⟨0, 4294967295⟩, ⟨0, 4294967295⟩, ⟨0, 4294967295⟩, ⟨0, 4294967295⟩, ⟨0, 4294967295⟩] [(.sub (.var 52) (.lit 1)), (.var 76), (.var 77), (.var 78), (.var 79), (.var 80), (.var 81), (.var 82), (.var 83), (.var 84), (.var 85), (.var 86), (.var 87), (.var 88)])
      (.need [(.pre 54 (.e (.var 76) (.e (.var 77) (.e (.var 78) (.e (.var 79) (.e (.var 80) (.e (.var 81) (.e (.var 14) .nil))))))))]
      (.call 54 (.e (.var 76) (.e (.var 77) (.e (.var 78) (.e (.var 79) (.e (.var 80) (.e (.var 81) (.e (.var 14) .nil))))))) 6
      (.fin (.e (.var 83) (.e (.var 84) (.e (.var 85) (.e (.var 86) (.e (.var 87) (.e (.var 88) (.e (.var 89) (.e (.var 90) (.e (.var 91) (.e (.var 92) (.e (.var 93) (.e (.var 94) .nil))))))))))))))))))))))))))
     (.need [(.b (.lt (.var 52) (.lit 6)))]
     (.bind (.ite (.eq (.var 52) (.lit 0)) (.var 66) (.var 60))
     (.bind (.ite (.eq (.var 52) (.lit 1)) (.var 66) (.var 61))
     (.bind (.ite (.eq (.var 52) (.lit 2)) (.var 66) (.var 62))
     (.bind (.ite (.eq (.var 52) (.lit 3)) (.var 66) (.var 63))
     (.bind (.ite (.eq (.var 52) (.lit 4)) (.var 66) (.var 64))
     (.bind (.ite (.eq (.var 52) (.lit 5)) (.var 66) (.var 65))
     (.ite (.lt (.lit 0) (.var 52))
      (.again 1 52 [⟨0, 6⟩, ⟨0, 4294967295⟩, ⟨0, 4294967295⟩, ⟨0, 4294967295⟩, ⟨0, 4294967295⟩, ⟨0, 4294967295⟩, ⟨0, 4294967295⟩, ⟨0, 4294967295⟩, ⟨0, 4294967295⟩, ⟨0, 4294967295⟩, ⟨0, 4294967295⟩, ⟨0, 4294967295⟩, ⟨0, 4294967295⟩, ⟨0, 4294967295⟩] [(.sub (.var 52) (.lit 1)), (.var 67), (.var 68), (.var 69), (.var 70), (.var 71), (.var 72), (.var 73), (.var 75), (.var 76), (.var 77), (.var 78), (.var 79), (.var 80)])
      (.need [(.pre 54 (.e (.var 67) (.e (.var 68) (.e (.var 69) (.e (.var 70) (.e (.var 71) (.e (.var 72) (.e (.var 14) .nil))))))))]
      (.call 54 (.e (.var 67) (.e (.var 68) (.e (.var 69) (.e (.var 70) (.e (.var 71) (.e (.var 72) (.e (.var 14) .nil))))))) 6
      (.fin (.e (.var 75) (.e (.var 76) (.e (.var 77) (.e (.var 78) (.e (.var 79) (.e (.var 80) (.e (.var 81) (.e (.var 82) (.e (.var 83) (.e (.var 84) (.e (.var 85) (.e (.var 86) .nil)))))))))))))))))))))))))))))
   (.need [(.pre 54 (.e (.var 39) (.e (.var 40) (.e (.var 41) (.e (.var 42) (.e (.var 43) (.e (.var 44) (.e (.var 14) .nil))))))))]
   (.call 54 (.e (.var 39) (.e (.var 40) (.e (.var 41) (.e (.var 42) (.e (.var 43) (.e (.var 44) (.e (.var 14) .nil))))))) 6
   (.fin (.e (.var 46) (.e (.var 47) (.e (.var 48) (.e (.var 49) (.e (.var 50) (.e (.var 51) (.e (.var 52) (.e (.var 53) (.e (.var 54) (.e (.var 55) (.e (.var 56) (.e (.var 57) .nil))))))))))))))))))))))))))
  (.need [(.b (.lt (.var 28) (.lit 6)))]
  (.bind (.ite (.eq (.var 28) (.lit 0)) (.var 29) (.lit 0))
  (.bind (.ite (.eq (.var 28) (.lit 1)) (.var 29) (.lit 0))
  (.bind (.ite (.eq (.var 28) (.lit 2)) (.var 29) (.lit 0))
  (.bind (.ite (.eq (.var 28) (.lit 3)) (.var 29) (.lit 0))
  (.bind (.ite (.eq (.var 28) (.lit 4)) (.var 29) (.lit 0))
  (.bind (.ite (.eq (.var 28) (.lit 5)) (.var 29) (.lit 0))
  (.ite (.lt (.lit 0) (.var 28))
   (.loop 1 [(.sub (.var 28) (.lit 1)), (.var 30), (.var 31), (.var 32), (.var 33), (.var 34), (.var 35), (.var 36), (.var 38), (.var 39), (.var 40), (.var 41), (.var 42), (.var 43)] [⟨0, 6⟩, ⟨0, 4294967295⟩, ⟨0, 4294967295⟩, ⟨0, 4294967295⟩, ⟨0, 4294967295⟩, ⟨0, 4294967295⟩, ⟨0, 4294967295⟩, ⟨0, 4294967295⟩, ⟨0, 4294967295⟩, ⟨0, 4294967295⟩, ⟨0, 4294967295⟩, ⟨0, 4294967295⟩, ⟨0, 4294967295⟩, ⟨0, 4294967295⟩]
    (.need [(.pre 101 (.e (.var 45) (.e (.var 46) (.e (.var 47) (.e (.var 48) (.e (.var 49) (.e (.var 50) (.e (.var 51) (.e (.var 15) (.e (.var 16) (.e (.var 17) (.e (.var 18) (.e (.var 19) (.e (.var 20) (.e (.var 44) (.e (.var 12) .nil))))))))))))))))]
    (.call 101 (.e (.var 45) (.e (.var 46) (.e (.var 47) (.e (.var 48) (.e (.var 49) (.e (.var 50) (.e (.var 51) (.e (.var 15) (.e (.var 16) (.e (.var 17) (.e (.var 18) (.e (.var 19) (.e (.var 20) (.e (.var 44) (.e (.var 12) .nil))))))))))))))) 1
    (.need [(.pre 102 (.e (.var 45) (.e (.var 46) (.e (.var 47) (.e (.var 48) (.e (.var 49) (.e (.var 50) (.e (.var 51) (.e (.var 15) (.e (.var 16) (.e (.var 17) (.e (.var 18) (.e (.var 19) (.e (.var 20) (.e (.var 58) (.e (.var 44) (.e (.var 12) .nil)))))))))))))))))]
    (.call 102 (.e (.var 45) (.e (.var 46) (.e (.var 47) (.e (.var 48) (.e (.var 49) (.e (.var 50) (.e (.var 51) (.e (.var 15) (.e (.var 16) (.e (.var 17) (.e (.var 18) (.e (.var 19) (.e (.var 20) (.e (.var 58) (.e (.var 44) (.e (.var 12) .nil)))))))))))))))) 8
    (.ite (.eq (.var 66) (.lit 1))
     (.bind (.wrap .u32 (.sub (.var 58) (.lit 1)))
     (.need [(.pre 103 (.e (.var 59) (.e (.var 60) (.e (.var 61) (.e (.var 62) (.e (.var 63) (.e (.var 64) (.e (.var 65) (.e (.var 15) (.e (.var 16) (.e (.var 17) (.e (.var 18) (.e (.var 19) (.e (.var 20) (.e (.var 44) (.e (.var 12) .nil))))))))))))))))]
     (.call 103 (.e (.var 59) (.e (.var 60) (.e (.var 61) (.e (.var 62) (.e (.var 63) (.e (.var 64) (.e (.var 65) (.e (.var 15) (.e (.var 16) (.e (.var 17) (.e (.var 18) (.e (.var 19) (.e (.var 20) (.e (.var 44) (.e (.var 12) .nil))))))))))))))) 7
     (.need [(.b (.lt (.var 44) (.lit 6)))]
     (.bind (.ite (.eq (.var 44) (.lit 0)) (.var 67) (.var 52))
     (.bind (.ite (.eq (.var 44) (.lit 1)) (.var 67) (.var 53))
     (.bind (.ite (.eq (.var 44) (.lit 2)) (.var 67) (.var 54))
     (.bind (.ite (.eq (.var 44) (.lit 3)) (.var 67) (.var 55))
     (.bind (.ite (.eq (.var 44) (.lit 4)) (.var 67) (.var 56))
     (.bind (.ite (.eq (.var 44) (.lit 5)) (.var 67) (.var 57))
     (.ite (.lt (.lit 0) (.var 44))
      (.again 1 44 [⟨0, 6⟩, ⟨0, 4294967295⟩, ⟨0, 4294967295⟩, ⟨0, 4294967295⟩, ⟨0, 4294967295⟩, ⟨0, 4294967295⟩, ⟨0, 4294967295⟩, ⟨0, 4294967295⟩, ⟨0, 4294967295⟩, ⟨0, 4294967295⟩, ⟨0, 4294967295⟩, ⟨0, 4294967295⟩, ⟨0, 4294967295⟩, ⟨0, 4294967295⟩] [(.sub (.var 44) (.lit 1)), (.var 68), (.var 69), (.var 70), (.var 71), (.var 72), (.var 73), (.var 74), (.var 75), (.var 76), (.var 77), (.var 78), (.var 79), (.var 80)])
      (.need [(.pre 54 (.e (.var 68) (.e (.var 69) (.e (.var 70) (.e (.var 71) (.e (.var 72) (.e (.var 73) (.e (.var 14) .nil))))))))]
      (.call 54 (.e (.var 68) (.e (.var 69) (.e (.var 70) (.e (.var 71) (.e (.var 72) (.e (.var 73) (.e (.var 14) .nil))))))) 6
      (.fin (.e (.var 75) (.e (.var 76) (.e (.var 77) (.e (.var 78) (.e (.var 79) (.e (.var 80) (.e (.var 81) (.e (.var 82) (.e (.var 83) (.e (.var 84) (.e (.var 85) (.e (.var 86) .nil))))))))))))))))))))))))))
     (.need [(.b (.lt (.var 44) (.lit 6)))]
     (.bind (.ite (.eq (.var 44) (.lit 0)) (.var 58) (.var 52))
     (.bind (.ite (.eq (.var 44) (.lit 1)) (.var 58) (.var 53))
     (.bind (.ite (.eq (.var 44) (.lit 2)) (.var 58) (.var 54))
     (.bind (.ite (.eq (.var 44) (.lit 3)) (.var 58) (.var 55))
     (.bind (.ite (.eq (.var 44) (.lit 4)) (.var 58) (.var 56))
     (.bind (.ite (.eq (.var 44) (.lit 5)) (.var 58) (.var 57))
     (.ite (.lt (.lit 0) (.var 44))
      (.again 1 44 [⟨0, 6⟩, ⟨0, 4294967295⟩, ⟨0, 4294967295⟩, ⟨0, 4294967295⟩, ⟨0, 4294967295⟩, ⟨0, 4294967295⟩, ⟨0, 4294967295⟩, ⟨0, 4294967295⟩, ⟨0, 4294967295⟩, ⟨0, 4294967295⟩, ⟨0, 4294967295⟩, ⟨0, 4294967295⟩, ⟨0, 4294967295⟩, ⟨0, 4294967295⟩] [(.sub (.var 44) (.lit 1)), (.var 59), (.var 60), (.var 61), (.var 62), (.var 63), (.var 64), (.var 65), (.var 67), (.var 68), (.var 69), (.var 70), (.var 71), (.var 72)])
      (.need [(.pre 54 (.e (.var 59) (.e (.var 60) (.e (.var 61) (.e (.var 62) (.e (.var 63) (.e (.var 64) (.e (.var 14) .nil))))))))]
      (.call 54 (.e (.var 59) (.e (.var 60) (.e (.var 61) (.e (.var 62) (.e (.var 63) (.e (.var 64) (.e (.var 14) .nil))))))) 6
      (.fin (.e (.var 67) (.e (.var 68) (.e (.var 69) (.e (.var 70) (.e (.var 71) (.e (.var 72) (.e (.var 73) (.e (.var 74) (.e (.var 75) (.e (.var 76) (.e (.var 77) (.e (.var 78) .nil)))))))))))))))))))))))))))))
   (.need [(.pre 54 (.e (.var 30) (.e (.var 31) (.e (.var 32) (.e (.var 33) (.e (.var 34) (.e (.var 35) (.e (.var 14) .nil))))))))]
   (.call 54 (.e (.var 30) (.e (.var 31) (.e (.var 32) (.e (.var 33) (.e (.var 34) (.e (.var 35) (.e (.var 14) .nil))))))) 6
   (.fin (.e (.var 38) (.e (.var 39) (.e (.var 40) (.e (.var 41) (.e (.var 42) (.e (.var 43) (.e (.var 44) (.e (.var 45) (.e (.var 46) (.e (.var 47) (.e (.var 48) (.e (.var 49) .nil)))))))))))))))))))))))))))))))))))))
theorem v92 : vcOfI ⟨c92, [(1000000, ⟨1, [11], [5, 6], [30, 31, 32, 33, 34, 12, 36, 37, 38, 39, 40, 41, 42, 35, 43, 44, 13, 14, 45, 46, 47, 48, 49, 50, 51, 52, 53, 54, 55, 56, 57, 58, 59, 60, 61, 62, 63, 64, 65, 66, 19], [⟨0, 6⟩, ⟨0, 4294967295⟩, ⟨0, 4294967295⟩, ⟨0, 4294967295⟩, ⟨0, 4294967295⟩, ⟨0, 4294967295⟩, ⟨0, 4294967295⟩, ⟨0, 4294967295⟩, ⟨0, 4294967295⟩, ⟨0, 4294967295⟩, ⟨0, 4294967295⟩, ⟨0, 4294967295⟩, ⟨0, 4294967295⟩, ⟨0, 4294967295⟩]⟩)]⟩ iv92 250 Try.f92 s92 = t92 := by kernel_rfl
set_option linter.unusedVariables false in
def p92 (T : Tab) (I : Nat → List Int → List Int → Prop) (M : Nat → List Int → List Int → Nat) (pre : Nat → List Int → Prop) (post : List Int → Prop) (v0 v1 v2 v3 v4 v5 v6 v7 v8 v9 v10 v11 : Int) : Prop :=
 ∀ v12 : Int, [v12] = T.out 86 1 [v6, v7, v8, v9, v10, v11] →
 ((decide ((0 : Int) ≤ (v12 - 1)) = true) ∧ ((decide ((0 : Int) ≤ (v12 - 1)) = true) →
 ∀ v13 : Int, v13 = (if decide (((v12 - 1) : Int) = 0) = true then v6 else (if decide (((v12 - 1) : Int) = 1) = true then v7 else (if decide (((v12 - 1) : Int) = 2) = true then v8 else (if decide (((v12 - 1) : Int) = 3) = true then v9 else (if decide (((v12 - 1) : Int) = 4) = true then v10 else v11))))) →
 ∀ v14 : Int, [v14] = T.out 99 1 [v13] →
 ((pre 52 [v6, v7, v8, v9, v10, v11, v14]) ∧ ((pre 52 [v6, v7, v8, v9, v10, v11, v14]) →
 ∀ v15 v16 v17 v18 v19 v20 : Int, [v15, v16, v17, v18, v19, v20] = T.out 52 6 [v6, v7, v8, v9, v10, v11, v14] →
 ((pre 100 [v0, v1, v2, v3, v4, v5, v14]) ∧ ((pre 100 [v0, v1, v2, v3, v4, v5, v14]) →
 ∀ v21 v22 v23 v24 v25 v26 v27 : Int, [v21, v22, v23, v24, v25, v26, v27] = T.out 100 7 [v0, v1, v2, v3, v4, v5, v14] →
 ∀ v28 : Int, v28 = (6 - v12) →
 ((pre 101 [v21, v22, v23, v24, v25, v26, v27, v15, v16, v17, v18, v19, v20, v28, v12]) ∧ ((pre 101 [v21, v22, v23, v24, v25, v26, v27, v15, v16, v17, v18, v19, v20, v28, v12]) →
 ∀ v29 : Int, [v29] = T.out 101 1 [v21, v22, v23, v24, v25, v26, v27, v15, v16, v17, v18, v19, v20, v28, v12] →
 ((pre 102 [v21, v22, v23, v24, v25, v26, v27, v15, v16, v17, v18, v19, v20, v29, v28, v12]) ∧ ((pre 102 [v21, v22, v23, v24, v25, v26, v27, v15, v16, v17, v18, v19, v20, v29, v28, v12]) →
 ∀ v30 v31 v32 v33 v34 v35 v36 v37 : Int, [v30, v31, v32, v33, v34, v35, v36, v37] = T.out 102 8 [v21, v22, v23, v24, v25, v26, v27, v15, v16, v17, v18, v19, v20, v29, v28, v12] →
 ((decide ((v37 : Int) = 1) = true →
  ∀ v38 : Int, v38 = (IntKind.wrap .u32 (v29 - 1)) →
  ((pre 103 [v30, v31, v32, v33, v34, v35, v36, v15, v16, v17, v18, v19, v20, v28, v12]) ∧ ((pre 103 [v30, v31, v32, v33, v34, v35, v36, v15, v16, v17, v18, v19, v20, v28, v12]) →
  ∀ v39 v40 v41 v42 v43 v44 v45 : Int, [v39, v40, v41, v42, v43, v44, v45] = T.out 103 7 [v30, v31, v32, v33, v34, v35, v36, v15, v16, v17, v18, v19, v20, v28, v12] →
  ((decide ((v28 : Int) < 6) = true) ∧ ((decide ((v28 : Int) < 6) = true) →
  ∀ v46 : Int, v46 = (if decide ((v28 : Int) = 0) = true then v38 else 0) →
  ∀ v47 : Int, v47 = (if decide ((v28 : Int) = 1) = true then v38 else 0) →
  ∀ v48 : Int, v48 = (if decide ((v28 : Int) = 2) = true then v38 else 0) →
  ∀ v49 : Int, v49 = (if decide ((v28 : Int) = 3) = true then v38 else 0) →
  ∀ v50 : Int, v50 = (if decide ((v28 : Int) = 4) = true then v38 else 0) →
  ∀ v51 : Int, v51 = (if decide ((v28 : Int) = 5) = true then v38 else 0) →
  ((decide ((0 : Int) < v28) = true →
   ((allHas [⟨0, 6⟩, ⟨0, 4294967295⟩, ⟨0, 4294967295⟩, ⟨0, 4294967295⟩, ⟨0, 4294967295⟩, ⟨0, 4294967295⟩, ⟨0, 4294967295⟩, ⟨0, 4294967295⟩, ⟨0, 4294967295⟩, ⟨0, 4294967295⟩, ⟨0, 4294967295⟩, ⟨0, 4294967295⟩, ⟨0, 4294967295⟩, ⟨0, 4294967295⟩] [(v28 - 1), v39, v40, v41, v42, v43, v44, v45, v46, v47, v48, v49, v50, v51] ∧ I 1 [v0, v1, v2, v3, v4, v5, v6, v7, v8, v9, v10, v11, v12, v13, v14, v15, v16, v17, v18, v19, v20, v21, v22, v23, v24, v25, v26, v27, v28, v29, v30, v31, v32, v33, v34, v35, v36, v37, v38, v39, v40, v41, v42, v43, v44, v45, v46, v47, v48, v49, v50, v51] [(v28 - 1), v39, v40, v41, v42, v43, v44, v45, v46, v47, v48, v49, v50, v51]) ∧ ∀ v52 v53 v54 v55 v56 v57 v58 v59 v60 v61 v62 v63 v64 v65 : Int, allHas [⟨0, 6⟩, ⟨0, 4294967295⟩, ⟨0, 4294967295⟩, ⟨0, 4294967295⟩, ⟨0, 4294967295⟩, ⟨0, 4294967295⟩, ⟨0, 4294967295⟩, ⟨0, 4294967295⟩, ⟨0, 4294967295⟩, ⟨0, 4294967295⟩, ⟨0, 4294967295⟩, ⟨0, 4294967295⟩, ⟨0, 4294967295⟩, ⟨0, 4294967295⟩] [v52, v53, v54, v55, v56, v57, v58, v59, v60, v61, v62, v63, v64, v65] → I 1 [v0, v1, v2, v3, v4, v5, v6, v7, v8, v9, v10, v11, v12, v13, v14, v15, v16, v17, v18, v19, v20, v21, v22, v23, v24, v25, v26, v27, v28, v29, v30, v31, v32, v33, v34, v35, v36, v37, v38, v39, v40, v41, v42, v43, v44, v45, v46, v47, v48, v49, v50, v51] [v52, v53, v54, v55, v56, v57, v58, v59, v60, v61, v62, v63, v64, v65] →
    ((pre 101 [v53, v54, v55, v56, v57, v58, v59, v15, v16, v17, v18, v19, v20, v52, v12]) ∧ ((pre 101 [v53, v54, v55, v56, v57, v58, v59, v15, v16, v17, v18, v19, v20, v52, v12]) →
    ∀ v66 : Int, [v66] = T.out 101 1 [v53, v54, v55, v56, v57, v58, v59, v15, v16, v17, v18, v19, v20, v52, v12] →
    ((pre 102 [v53, v54, v55, v56, v57, v58, v59, v15, v16, v17, v18, v19, v20, v66, v52, v12]) ∧ ((pre 102 [v53, v54, v55, v56, v57, v58, v59, v15, v16, v17, v18, v19, v20, v66, v52, v12]) →
    ∀ v67 v68 v69 v70 v71 v72 v73 v74 : Int, [v67, v68, v69, v70, v71, v72, v73, v74] = T.out 102 8 [v53, v54, v55, v56, v57, v58, v59, v15, v16, v17, v18, v19, v20, v66, v52, v12] →
    ((decide ((v74 : Int) = 1) = true →
     ∀ v75 : Int, v75 = (IntKind.wrap .u32 (v66 - 1)) →
     ((pre 103 [v67, v68, v69, v70, v71, v72, v73, v15, v16, v17, v18, v19, v20, v52, v12]) ∧ ((pre 103 [v67, v68, v69, v70, v71, v72, v73, v15, v16, v17, v18, v19, v20, v52, v12]) →
     ∀ v76 v77 v78 v79 v80 v81 v82 : Int, [v76, v77, v78, v79, v80, v81, v82] = T.out 103 7 [v67, v68, v69, v70, v71, v72, v73, v15, v16, v17, v18, v19, v20, v52, v12] →
     ((decide ((v52 : Int) < 6) = true) ∧ ((decide ((v52 : Int) < 6) = true) →
     ∀ v83 : Int, v83 = (if decide ((v52 : Int) = 0) = true then v75 else v60) →
     ∀ v84 : Int, v84 = (if decide ((v52 : Int) = 1) = true then v75 else v61) →
     ∀ v85 : Int, v85 = (if decide ((v52 : Int) = 2) = true then v75 else v62) →
     ∀ v86 : Int, v86 = (if decide ((v52 : Int) = 3) = true then v75 else v63) →
     ∀ v87 : Int, v87 = (if decide ((v52 : Int) = 4) = true then v75 else v64) →
     ∀ v88 : Int, v88 = (if decide ((v52 : Int) = 5) = true then v75 else v65) →
     ((decide ((0 : Int) < v52) = true →
      (allHas [⟨0, 6⟩, ⟨0, 4294967295⟩, ⟨0, 4294967295⟩, ⟨0, 4294967295⟩, ⟨0, 4294967295⟩, ⟨0, 4294967295⟩, ⟨0, 4294967295⟩, ⟨0, 4294967295⟩, ⟨0, 4294967295⟩, ⟨0, 4294967295⟩, ⟨0, 4294967295⟩, ⟨0, 4294967295⟩, ⟨0, 4294967295⟩, ⟨0, 4294967295⟩] [(v52 - 1), v76, v77, v78, v79, v80, v81, v82, v83, v84, v85, v86, v87, v88] ∧ I 1 [v0, v1, v2, v3, v4, v5, v6, v7, v8, v9, v10, v11, v12, v13, v14, v15, v16, v17, v18, v19, v20, v21, v22, v23, v24, v25, v26, v27, v28, v29, v30, v31, v32, v33, v34, v35, v36, v37, v38, v39, v40, v41, v42, v43, v44, v45, v46, v47, v48, v49, v50, v51] [(v52 - 1), v76, v77, v78, v79, v80, v81, v82, v83, v84, v85, v86, v87, v88] ∧ M 1 [v0, v1, v2, v3, v4, v5, v6, v7, v8, v9, v10, v11, v12, v13, v14, v15, v16, v17, v18, v19, v20, v21, v22, v23, v24, v25, v26, v27, v28, v29, v30, v31, v32, v33, v34, v35, v36, v37, v38, v39, v40, v41, v42, v43, v44, v45, v46, v47, v48, v49, v50, v51] [(v52 - 1), v76, v77, v78, v79, v80, v81, v82, v83, v84, v85, v86, v87, v88] < M 1 [v0, v1, v2, v3, v4, v5, v6, v7, v8, v9, v10, v11, v12, v13, v14, v15, v16, v17, v18, v19, v20, v21, v22, v23, v24, v25, v26, v27, v28, v29, v30, v31, v32, v33, v34, v35, v36, v37, v38, v39, v40, v41, v42, v43, v44, v45, v46, v47, v48, v49, v50, v51] [v52, v53, v54, v55, v56, v57, v58, v59, v60, v61, v62, v63, v64, v65])) ∧ (decide ((0 : Int) < v52) = false →
      ((pre 54 [v76, v77, v78, v79, v80, v81, v14]) ∧ ((pre 54 [v76, v77, v78, v79, v80, v81, v14]) →
      ∀ v89 v90 v91 v92 v93 v94 : Int, [v89, v90, v91, v92, v93, v94] = T.out 54 6 [v76, v77, v78, v79, v80, v81, v14] →
      post [v83, v84, v85, v86, v87, v88, v89, v90, v91, v92, v93, v94]))))))))) ∧ (decide ((v74 : Int) = 1) = false →
     ((decide ((v52 : Int) < 6) = true) ∧ ((decide ((v52 : Int) < 6) = true) →
     ∀ v75 : Int, v75 = (if decide ((v52 : Int) = 0) = true then v66 else v60) →
     ∀ v76 : Int, v76 = (if decide ((v52 : Int) = 1) = true then v66 else v61) →
     ∀ v77 : Int, v77 = (if decide ((v52 : Int) = 2) = true then v66 else v62) →
     ∀ v78 : Int, v78 = (if decide ((v52 : Int) = 3) = true then v66 else v63) →
     ∀ v79 : Int, v79 = (if decide ((v52 : Int) = 4) = true then v66 else v64) →
     ∀ v80 : Int, v80 = (if decide ((v52 : Int) = 5) = true then v66 else v65) →
     ((decide ((0 : Int) < v52) = true →
      (allHas [⟨0, 6⟩, ⟨0, 4294967295⟩, ⟨0, 4294967295⟩, ⟨0, 4294967295⟩, ⟨0, 4294967295⟩, ⟨0, 4294967295⟩, ⟨0, 4294967295⟩, ⟨0, 4294967295⟩, ⟨0, 4294967295⟩, ⟨0, 4294967295⟩, ⟨0, 4294967295⟩, ⟨0, 4294967295⟩, ⟨0, 4294967295⟩, ⟨0, 4294967295⟩] [(v52 - 1), v67, v68, v69, v70, v71, v72, v73, v75, v76, v77, v78, v79, v80] ∧ I 1 [v0, v1, v2, v3, v4, v5, v6, v7, v8, v9, v10, v11, v12, v13, v14, v15, v16, v17, v18, v19, v20, v21, v22, v23, v24, v25, v26, v27, v28, v29, v30, v31, v32, v33, v34, v35, v36, v37, v38, v39, v40, v41, v42, v43, v44, v45, v46, v47, v48, v49, v50, v51] [(v52 - 1), v67, v68, v69, v70, v71, v72, v73, v75, v76, v77, v78, v79, v80] ∧ M 1 [v0, v1, v2, v3, v4, v5, v6, v7, v8, v9, v10, v11, v12, v13, v14, v15, v16, v17, v18, v19, v20, v21, v22, v23, v24, v25, v26, v27, v28, v29, v30, v31, v32, v33, v34, v35, v36, v37, v38, v39, v40, v41, v42, v43, v44, v45, v46, v47, v48, v49, v50, v51] [(v52 - 1), v67, v68, v69, v70, v71, v72, v73, v75, v76, v77, v78, v79, v80] < M 1 [v0, v1, v2, v3, v4, v5, v6, v7, v8, v9, v10, v11, v12, v13, v14, v15, v16, v17, v18, v19, v20, v21, v22, v23, v24, v25, v26, v27, v28, v29, v30, v31, v32, v33, v34, v35, v36, v37, v38, v39, v40, v41, v42, v43, v44, v45, v46, v47, v48, v49, v50, v51] [v52, v53, v54, v55, v56, v57, v58, v59, v60, v61, v62, v63, v64, v65])) ∧ (decide ((0 : Int) < v52) = false →
      ((pre 54 [v67, v68, v69, v70, v71, v72, v14]) ∧ ((pre 54 [v67, v68, v69, v70, v71, v72, v14]) →
      ∀ v81 v82 v83 v84 v85 v86 : Int, [v81, v82, v83, v84, v85, v86] = T.out 54 6 [v67, v68, v69, v70, v71, v72, v14] →
      post [v75, v76, v77, v78, v79, v80, v81, v82, v83, v84, v85, v86])))))))))))))) ∧ (decide ((0 : Int) < v28) = false →
   ((pre 54 [v39, v40, v41, v42, v43, v44, v14]) ∧ ((pre 54 [v39, v40, v41, v42, v43, v44, v14]) →
   ∀ v52 v53 v54 v55 v56 v57 : Int, [v52, v53, v54, v55, v56, v57] = T.out 54 6 [v39, v40, v41, v42, v43, v44, v14] →
   post [v46, v47, v48, v49, v50, v51, v52, v53, v54, v55, v56, v57]))))))))) ∧ (decide ((v37 : Int) = 1) = false →
  ((decide ((v28 : Int) < 6) = true) ∧ ((decide ((v28 : Int) < 6) = true) →
  ∀ v38 : Int, v38 = (if decide ((v28 : Int) = 0) = true then v29 else 0) →
  ∀ v39 : Int, v39 = (if decide ((v28 : Int) = 1) = true then v29 else 0) →
  ∀ v40 : Int, v40 = (if decide ((v28 : Int) = 2) = true then v29 else 0) →
  ∀ v41 : Int, v41 = (if decide ((v28 : Int) = 3) = true then v29 else 0) →
  ∀ v42 : Int, v42 = (if decide ((v28 : Int) = 4) = true then v29 else 0) →
  ∀ v43 : Int, v43 = (if decide ((v28 : Int) = 5) = true then v29 else 0) →
  ((decide ((0 : Int) < v28) = true →
   ((allHas [⟨0, 6⟩, ⟨0, 4294967295⟩, ⟨0, 4294967295⟩, ⟨0, 4294967295⟩, ⟨0, 4294967295⟩, ⟨0, 4294967295⟩, ⟨0, 4294967295⟩, ⟨0, 4294967295⟩, ⟨0, 4294967295⟩, ⟨0, 4294967295⟩, ⟨0, 4294967295⟩, ⟨0, 4294967295⟩, ⟨0, 4294967295⟩, ⟨0, 4294967295⟩] [(v28 - 1), v30, v31, v32, v33, v34, v35, v36, v38, v39, v40, v41, v42, v43] ∧ I 1 [v0, v1, v2, v3, v4, v5, v6, v7, v8, v9, v10, v11, v12, v13, v14, v15, v16, v17, v18, v19, v20, v21, v22, v23, v24, v25, v26, v27, v28, v29, v30, v31, v32, v33, v34, v35, v36, v37, v38, v39, v40, v41, v42, v43] [(v28 - 1), v30, v31, v32, v33, v34, v35, v36, v38, v39, v40, v41, v42, v43]) ∧ ∀ v44 v45 v46 v47 v48 v49 v50 v51 v52 v53 v54 v55 v56 v57 : Int, allHas [⟨0, 6⟩, ⟨0, 4294967295⟩, ⟨0, 4294967295⟩, ⟨0, 4294967295⟩, ⟨0, 4294967295⟩, ⟨0, 4294967295⟩, ⟨0, 4294967295⟩, ⟨0, 4294967295⟩, ⟨0, 4294967295⟩, ⟨0, 4294967295⟩, ⟨0, 4294967295⟩, ⟨0, 4294967295⟩, ⟨0, 4294967295⟩, ⟨0, 4294967295⟩] [v44, v45, v46, v47, v48, v49, v50, v51, v52, v53, v54, v55, v56, v57] → I 1 [v0, v1, v2, v3, v4, v5, v6, v7, v8, v9, v10, v11, v12, v13, v14, v15, v16, v17, v18, v19, v20, v21, v22, v23, v24, v25, v26, v27, v28, v29, v30, v31, v32, v33, v34, v35, v36, v37, v38, v39, v40, v41, v42, v43] [v44, v45, v46, v47, v48, v49, v50, v51, v52, v53, v54, v55, v56, v57] →
    ((pre 101 [v45, v46, v47, v48, v49, v50, v51, v15, v16, v17, v18, v19, v20, v44, v12]) ∧ ((pre 101 [v45, v46, v47, v48, v49, v50, v51, v15, v16, v17, v18, v19, v20, v44, v12]) →
    ∀ v58 : Int, [v58] = T.out 101 1 [v45, v46, v47, v48, v49, v50, v51, v15, v16, v17, v18, v19, v20, v44, v12] →
    ((pre 102 [v45, v46, v47, v48, v49, v50, v51, v15, v16, v17, v18, v19, v20, v58, v44, v12]) ∧ ((pre 102 [v45, v46, v47, v48, v49, v50, v51, v15, v16, v17, v18, v19, v20, v58, v44, v12]) →
    ∀ v59 v60 v61 v62 v63 v64 v65 v66 : Int, [v59, v60, v61, v62, v63, v64, v65, v66] = T.out 102 8 [v45, v46, v47, v48, v49, v50, v51, v15, v16, v17, v18, v19, v20, v58, v44, v12] →
    ((decide ((v66 : Int) = 1) = true →
     ∀ v67 : Int, v67 = (IntKind.wrap .u32 (v58 - 1)) →
     ((pre 103 [v59, v60, v61, v62, v63, v64, v65, v15, v16, v17, v18, v19, v20, v44, v12]) ∧ ((pre 103 [v59, v60, v61, v62, v63, v64, v65, v15, v16, v17, v18, v19, v20, v44, v12]) →
     ∀ v68 v69 v70 v71 v72 v73 v74 : Int, [v68, v69, v70, v71, v72, v73, v74] = T.out 103 7 [v59, v60, v61, v62, v63, v64, v65, v15, v16, v17, v18, v19, v20, v44, v12] →
     ((decide ((v44 : Int) < 6) = true) ∧ ((decide ((v44 : Int) < 6) = true) →
     ∀ v75 : Int, v75 = (if decide ((v44 : Int) = 0) = true then v67 else v52) →
     ∀ v76 : Int, v76 = (if decide ((v44 : Int) = 1) = true then v67 else v53) →
     ∀ v77 : Int, v77 = (if decide ((v44 : Int) = 2) = true then v67 else v54) →
     ∀ v78 : Int, v78 = (if decide ((v44 : Int) = 3) = true then v67 else v55) →
     ∀ v79 : Int, v79 = (if decide ((v44 : Int) = 4) = true then v67 else v56) →
     ∀ v80 : Int, v80 = (if decide ((v44 : Int) = 5) = true then v67 else v57) →
     ((decide ((0 : Int) < v44) = true →
      (allHas [⟨0, 6⟩, ⟨0, 4294967295⟩, ⟨0, 4294967295⟩, ⟨0, 4294967295⟩, ⟨0, 4294967295⟩, ⟨0, 4294967295⟩, ⟨0, 4294967295⟩, ⟨0, 4294967295⟩, ⟨0, 4294967295⟩, ⟨0, 4294967295⟩, ⟨0, 4294967295⟩, ⟨0, 4294967295⟩, ⟨0, 4294967295⟩, ⟨0, 4294967295⟩] [(v44 - 1), v68, v69, v70, v71, v72, v73, v74, v75, v76, v77, v78, v79, v80] ∧ I 1 [v0, v1, v2, v3, v4, v5, v6, v7, v8, v9, v10, v11, v12, v13, v14, v15, v16, v17, v18, v19, v20, v21, v22, v23, v24, v25, v26, v27, v28, v29, v30, v31, v32, v33, v34, v35, v36, v37, v38, v39, v40, v41, v42, v43] [(v44 - 1), v68, v69, v70, v71, v72, v73, v74, v75, v76, v77, v78, v79, v80] ∧ M 1 [v0, v1, v2, v3, v4, v5, v6, v7, v8, v9, v10, v11, v12, v13, v14, v15, v16, v17, v18, v19, v20, v21, v22, v23, v24, v25, v26, v27, v28, v29, v30, v31, v32, v33, v34, v35, v36, v37, v38, v39, v40, v41, v42, v43] [(v44 - 1), v68, v69, v70, v71, v72, v73, v74, v75, v76, v77, v78, v79, v80] < M 1 [v0, v1, v2, v3, v4, v5, v6, v7, v8, v9, v10, v11, v12, v13, v14, v15, v16, v17, v18, v19, v20, v21, v22, v23, v24, v25, v26, v27, v28, v29, v30, v31, v32, v33, v34, v35, v36, v37, v38, v39, v40, v41, v42, v43] [v44, v45, v46, v47, v48, v49, v50, v51, v52, v53, v54, v55, v56, v57])) ∧ (decide ((0 : Int) < v44) = false →
      ((pre 54 [v68, v69, v70, v71, v72, v73, v14]) ∧ ((pre 54 [v68, v69, v70, v71, v72, v73, v14]) →
      ∀ v81 v82 v83 v84 v85 v86 : Int, [v81, v82, v83, v84, v85, v86] = T.out 54 6 [v68, v69, v70, v71, v72, v73, v14] →
      post [v75, v76, v77, v78, v79, v80, v81, v82, v83, v84, v85, v86]))))))))) ∧ (decide ((v66 : Int) = 1) = false →
     ((decide ((v44 : Int) < 6) = true) ∧ ((decide ((v44 : Int) < 6) = true) →
     ∀ v67 : Int, v67 = (if decide ((v44 : Int) = 0) = true then v58 else v52) →
     ∀ v68 : Int, v68 = (if decide ((v44 : Int) = 1) = true then v58 else v53) →
     ∀ v69 : Int, v69 = (if decide ((v44 : Int) = 2) = true then v58 else v54) →
     ∀ v70 : Int, v70 = (if decide ((v44 : Int) = 3) = true then v58 else v55) →
     ∀ v71 : Int, v71 = (if decide ((v44 : Int) = 4) = true then v58 else v56) →
     ∀ v72 : Int, v72 = (if decide ((v44 : Int) = 5) = true then v58 else v57) →
     ((decide ((0 : Int) < v44) = true →
      (allHas [⟨0, 6⟩, ⟨0, 4294967295⟩, ⟨0, 4294967295⟩, ⟨0, 4294967295⟩, ⟨0, 4294967295⟩, ⟨0, 4294967295⟩, ⟨0, 4294967295⟩, ⟨0, 4294967295⟩, ⟨0, 4294967295⟩, ⟨0, 4294967295⟩, ⟨0, 4294967295⟩, ⟨0, 4294967295⟩, ⟨0, 4294967295⟩, ⟨0, 4294967295⟩] [(v44 - 1), v59, v60, v61, v62, v63, v64, v65, v67, v68, v69, v70, v71, v72] ∧ I 1 [v0, v1, v2, v3, v4, v5, v6, v7, v8, v9, v10, v11, v12, v13, v14, v15, v16, v17, v18, v19, v20, v21, v22, v23, v24, v25, v26, v27, v28, v29, v30, v31, v32, v33, v34, v35, v36, v37, v38, v39, v40, v41, v42, v43] [(v44 - 1), v59, v60, v61, v62, v63, v64, v65, v67, v68, v69, v70, v71, v72] ∧ M 1 [v0, v1, v2, v3, v4, v5, v6, v7, v8, v9, v10, v11, v12, v13, v14, v15, v16, v17, v18, v19, v20, v21, v22, v23, v24, v25, v26, v27, v28, v29, v30, v31, v32, v33, v34, v35, v36, v37, v38, v39, v40, v41, v42, v43] [(v44 - 1), v59, v60, v61, v62, v63, v64, v65, v67, v68, v69, v70, v71, v72] < M 1 [v0, v1, v2, v3, v4, v5, v6, v7, v8, v9, v10, v11, v12, v13, v14, v15, v16, v17, v18, v19, v20, v21, v22, v23, v24, v25, v26, v27, v28, v29, v30, v31, v32, v33, v34, v35, v36, v37, v38, v39, v40, v41, v42, v43] [v44, v45, v46, v47, v48, v49, v50, v51, v52, v53, v54, v55, v56, v57])) ∧ (decide ((0 : Int) < v44) = false →
      ((pre 54 [v59, v60, v61, v62, v63, v64, v14]) ∧ ((pre 54 [v59, v60, v61, v62, v63, v64, v14]) →
      ∀ v73 v74 v75 v76 v77 v78 : Int, [v73, v74, v75, v76, v77, v78] = T.out 54 6 [v59, v60, v61, v62, v63, v64, v14] →
      post [v67, v68, v69, v70, v71, v72, v73, v74, v75, v76, v77, v78])))))))))))))) ∧ (decide ((0 : Int) < v28) = false →
   ((pre 54 [v30, v31, v32, v33, v34, v35, v14]) ∧ ((pre 54 [v30, v31, v32, v33, v34, v35, v14]) →
   ∀ v44 v45 v46 v47 v48 v49 : Int, [v44, v45, v46, v47, v48, v49] = T.out 54 6 [v30, v31, v32, v33, v34, v35, v14] →
   post [v38, v39, v40, v41, v42, v43, v44, v45, v46, v47, v48, v49]))))))))))))))))))
theorem q92 (T : Tab) (I : Nat → List Int → List Int → Prop) (M : Nat → List Int → List Int → Nat) (pre : Nat → List Int → Prop) (post : List Int → Prop) (v0 v1 v2 v3 v4 v5 v6 v7 v8 v9 v10 v11 : Int) : t92.plain T (presL pre I M) post ⟨[v0, v1, v2, v3, v4, v5, v6, v7, v8, v9, v10, v11], []⟩ = p92 T I M pre post v0 v1 v2 v3 v4 v5 v6 v7 v8 v9 v10 v11 := by kernel_rfl
theorem k92 (T : Tab) (I : Nat → List Int → List Int → Prop) (M : Nat → List Int → List Int → Nat) (pre : Nat → List Int → Prop) (hs : SubSig T c92.sigs) (ht : Tot pre c92.sigs) (hg : T.sig 92 = some s92) (hC : CtAll Try.prog T.fns (pres pre) c92.sigs) (hi : ∀ xs, pre 92 xs → allHas iv92 xs)
    (h : ∀ (v0 v1 v2 v3 v4 v5 v6 v7 v8 v9 v10 v11 : Int), (0 ≤ v0 ∧ v0 ≤ 4294967295) → (0 ≤ v1 ∧ v1 ≤ 4294967295) → (0 ≤ v2 ∧ v2 ≤ 4294967295) → (0 ≤ v3 ∧ v3 ≤ 4294967295) → (0 ≤ v4 ∧ v4 ≤ 4294967295) → (0 ≤ v5 ∧ v5 ≤ 4294967295) → (0 ≤ v6 ∧ v6 ≤ 4294967295) → (0 ≤ v7 ∧ v7 ≤ 4294967295) → (0 ≤ v8 ∧ v8 ≤ 4294967295) → (0 ≤ v9 ∧ v9 ≤ 4294967295) → (0 ≤ v10 ∧ v10 ≤ 4294967295) → (0 ≤ v11 ∧ v11 ≤ 4294967295) → pre 92 [v0, v1, v2, v3, v4, v5, v6, v7, v8, v9, v10, v11] → p92 T I M pre (fun ys => ys = T.fn 92 [v0, v1, v2, v3, v4, v5, v6, v7, v8, v9, v10, v11]) v0 v1 v2 v3 v4 v5 v6 v7 v8 v9 v10 v11) : CT Try.prog T.fns (pres pre) 92 s92 :=
  T.ctq (F := ⟨c92, [(1000000, ⟨1, [11], [5, 6], [30, 31, 32, 33, 34, 12, 36, 37, 38, 39, 40, 41, 42, 35, 43, 44, 13, 14, 45, 46, 47, 48, 49, 50, 51, 52, 53, 54, 55, 56, 57, 58, 59, 60, 61, 62, 63, 64, 65, 66, 19], [⟨0, 6⟩, ⟨0, 4294967295⟩, ⟨0, 4294967295⟩, ⟨0, 4294967295⟩, ⟨0, 4294967295⟩, ⟨0, 4294967295⟩, ⟨0, 4294967295⟩, ⟨0, 4294967295⟩, ⟨0, 4294967295⟩, ⟨0, 4294967295⟩, ⟨0, 4294967295⟩, ⟨0, 4294967295⟩, ⟨0, 4294967295⟩, ⟨0, 4294967295⟩]⟩)]⟩) (fuel := 250) v92 Try.checked.mixed hs ht hg hC Try.func92 I M (fun xs _ h => hi xs h) fun xs hx hp => by
    match xs, hx, hp with
    | [v0, v1, v2, v3, v4, v5, v6, v7, v8, v9, v10, v11], hx, hp => rw [q92]; exact h v0 v1 v2 v3 v4 v5 v6 v7 v8 v9 v10 v11 hx.1 hx.2.1 hx.2.2.1 hx.2.2.2.1 hx.2.2.2.2.1 hx.2.2.2.2.2.1 hx.2.2.2.2.2.2.1 hx.2.2.2.2.2.2.2.1 hx.2.2.2.2.2.2.2.2.1 hx.2.2.2.2.2.2.2.2.2.1 hx.2.2.2.2.2.2.2.2.2.2.1 hx.2.2.2.2.2.2.2.2.2.2.2.1 hp

end Go.Proofs.Ytmlmdicdblgcfaa.Sx

namespace Go.Proofs.Ytmlmdicdblgcfaa.Sx
open Go Go.RowKit
/-- (loop.example/g01242/impl.limbs).divide -/
noncomputable def c61 : Cfg := ⟨Try.prog, [(56, s56), (86, s86), (92, s92), (72, s72)]⟩
def iv61 : List Iv := [⟨0, 4294967295⟩, ⟨0, 4294967295⟩, ⟨0, 4294967295⟩, ⟨0, 4294967295⟩, ⟨0, 4294967295⟩, ⟨0, 4294967295⟩, ⟨0, 4294967295⟩, ⟨0, 4294967295⟩, ⟨0, 4294967295⟩, ⟨0, 4294967295⟩, ⟨0, 4294967295⟩, ⟨0, 4294967295⟩]
def t61 : VC :=
 (.call 56 (.e (.var 0) (.e (.var 1) (.e (.var 2) (.e (.var 3) (.e (.var 4) (.e (.var 5) (.e (.var 6) (.e (.var 7) (.e (.var 8) (.e (.var 9) (.e (.var 10) (.e (.var 11) .nil)))))))))))) 1
 (.ite (.lt (.var 12) (.lit 0))
  (.fin (.e (.lit 0) (.e (.lit 0) (.e (.lit 0) (.e (.lit 0) (.e (.lit 0) (.e (.lit 0) (.e (.var 0) (.e (.var 1) (.e (.var 2) (.e (.var 3) (.e (.var 4) (.e (.var 5) .nil)))))))))))))
  (.call 86 (.e (.var 6) (.e (.var 7) (.e (.var 8) (.e (.var 9) (.e (.var 10) (.e (.var 11) .nil)))))) 1
  (.ite (.lt (.lit 1) (.var 13))
   (.need [(.pre 92 (.e (.var 0) (.e (.var 1) (.e (.var 2) (.e (.var 3) (.e (.var 4) (.e (.var 5) (.e (.var 6) (.e (.var 7) (.e (.var 8) (.e (.var 9) (.e (.var 10) (.e (.var 11) .nil)))))))))))))]
   (.call 92 (.e (.var 0) (.e (.var 1) (.e (.var 2) (.e (.var 3) (.e (.var 4) (.e (.var 5) (.e (.var 6) (.e (.var 7) (.e (.var 8) (.e (.var 9) (.e (.var 10) (.e (.var 11) .nil)))))))))))) 12
   (.fin (.e (.var 14) (.e (.var 15) (.e (.var 16) (.e (.var 17) (.e (.var 18) (.e (.var 19) (.e (.var 20) (.e (.var 21) (.e (.var 22) (.e (.var 23) (.e (.var 24) (.e (.var 25) .nil)))))))))))))))
   (.need [(.pre 72 (.e (.var 0) (.e (.var 1) (.e (.var 2) (.e (.var 3) (.e (.var 4) (.e (.var 5) (.e (.var 6) .nil))))))))]
   (.call 72 (.e (.var 0) (.e (.var 1) (.e (.var 2) (.e (.var 3) (.e (.var 4) (.e (.var 5) (.e (.var 6) .nil))))))) 7
   (.fin (.e (.var 14) (.e (.var 15) (.e (.var 16) (.e (.var 17) (.e (.var 18) (.e (.var 19) (.e (.var 20) (.e (.lit 0) (.e (.lit 0) (.e (.lit 0) (.e (.lit 0) (.e (.lit 0) .nil)))))))))))))))))))
theorem v61 : vcOfI ⟨c61, []⟩ iv61 250 Try.f61 s61 = t61 := by kernel_rfl
set_option linter.unusedVariables false in
def p61 (T : Tab) (I : Nat → List Int → List Int → Prop) (M : Nat → List Int → List Int → Nat) (pre : Nat → List Int → Prop) (post : List Int → Prop) (v0 v1 v2 v3 v4 v5 v6 v7 v8 v9 v10 v11 : Int) : Prop :=
 ∀ v12 : Int, [v12] = T.out 56 1 [v0, v1, v2, v3, v4, v5, v6, v7, v8, v9, v10, v11] →
 ((decide ((v12 : Int) < 0) = true →
  post [0, 0, 0, 0, 0, 0, v0, v1, v2, v3, v4, v5]) ∧ (decide ((v12 : Int) < 0) = false →
  ∀ v13 : Int, [v13] = T.out 86 1 [v6, v7, v8, v9, v10, v11] →
  ((decide ((1 : Int) < v13) = true →
   ((pre 92 [v0, v1, v2, v3, v4, v5, v6, v7, v8, v9, v10, v11]) ∧ ((pre 92 [v0, v1, v2, v3, v4, v5, v6, v7, v8, v9, v10, v11]) →
   ∀ v14 v15 v16 v17 v18 v19 v20 v21 v22 v23 v24 v25 : Int, [v14, v15, v16, v17, v18, v19, v20, v21, v22, v23, v24, v25] = T.out 92 12 [v0, v1, v2, v3, v4, v5, v6, v7, v8, v9, v10, v11] →
   post [v14, v15, v16, v17, v18, v19, v20, v21, v22, v23, v24, v25]))) ∧ (decide ((1 : Int) < v13) = false →
   ((pre 72 [v0, v1, v2, v3, v4, v5, v6]) ∧ ((pre 72 [v0, v1, v2, v3, v4, v5, v6]) →
   ∀ v14 v15 v16 v17 v18 v19 v20 : Int, [v14, v15, v16, v17, v18, v19, v20] = T.out 72 7 [v0, v1, v2, v3, v4, v5, v6] →
   post [v14, v15, v16, v17, v18, v19, v20, 0, 0, 0, 0, 0]))))))
theorem q61 (T : Tab) (I : Nat → List Int → List Int → Prop) (M : Nat → List Int → List Int → Nat) (pre : Nat → List Int → Prop) (post : List Int → Prop) (v0 v1 v2 v3 v4 v5 v6 v7 v8 v9 v10 v11 : Int) : t61.plain T (presL pre I M) post ⟨[v0, v1, v2, v3, v4, v5, v6, v7, v8, v9, v10, v11], []⟩ = p61 T I M pre post v0 v1 v2 v3 v4 v5 v6 v7 v8 v9 v10 v11 := by kernel_rfl
theorem k61 (T : Tab) (I : Nat → List Int → List Int → Prop) (M : Nat → List Int → List Int → Nat) (pre : Nat → List Int → Prop) (hs : SubSig T c61.sigs) (ht : Tot pre c61.sigs) (hg : T.sig 61 = some s61) (hC : CtAll Try.prog T.fns (pres pre) c61.sigs) (hi : ∀ xs, pre 61 xs → allHas iv61 xs)
    (h : ∀ (v0 v1 v2 v3 v4 v5 v6 v7 v8 v9 v10 v11 : Int), (0 ≤ v0 ∧ v0 ≤ 4294967295) → (0 ≤ v1 ∧ v1 ≤ 4294967295) → (0 ≤ v2 ∧ v2 ≤ 4294967295) → (0 ≤ v3 ∧ v3 ≤ 4294967295) → (0 ≤ v4 ∧ v4 ≤ 4294967295) → (0 ≤ v5 ∧ v5 ≤ 4294967295) → (0 ≤ v6 ∧ v6 ≤ 4294967295) → (0 ≤ v7 ∧ v7 ≤ 4294967295) → (0 ≤ v8 ∧ v8 ≤ 4294967295) → (0 ≤ v9 ∧ v9 ≤ 4294967295) → (0 ≤ v10 ∧ v10 ≤ 4294967295) → (0 ≤ v11 ∧ v11 ≤ 4294967295) → pre 61 [v0, v1, v2, v3, v4, v5, v6, v7, v8, v9, v10, v11] → p61 T I M pre (fun ys => ys = T.fn 61 [v0, v1, v2, v3, v4, v5, v6, v7, v8, v9, v10, v11]) v0 v1 v2 v3 v4 v5 v6 v7 v8 v9 v10 v11) : CT Try.prog T.fns (pres pre) 61 s61 :=
  T.ctq (F := ⟨c61, []⟩) (fuel := 250) v61 Try.checked.mixed hs ht hg hC Try.func61 I M (fun xs _ h => hi xs h) fun xs hx hp => by
    match xs, hx, hp with
    | [v0, v1, v2, v3, v4, v5, v6, v7, v8, v9, v10, v11], hx, hp => rw [q61]; exact h v0 v1 v2 v3 v4 v5 v6 v7 v8 v9 v10 v11 hx.1 hx.2.1 hx.2.2.1 hx.2.2.2.1 hx.2.2.2.2.1 hx.2.2.2.2.2.1 hx.2.2.2.2.2.2.1 hx.2.2.2.2.2.2.2.1 hx.2.2.2.2.2.2.2.2.1 hx.2.2.2.2.2.2.2.2.2.1 hx.2.2.2.2.2.2.2.2.2.2.1 hx.2.2.2.2.2.2.2.2.2.2.2.1 hp

/-- loop.example/g01242/impl.DivWides -/
noncomputable def c24 : Cfg := ⟨Try.prog, [(44, s44), (50, s50), (61, s61), (57, s57), (55, s55), (58, s58)]⟩
def iv24 : List Iv := [⟨0, 1⟩, ⟨0, 4294967295⟩, ⟨0, 4294967295⟩, ⟨0, 4294967295⟩, ⟨0, 4294967295⟩, ⟨0, 4294967295⟩, ⟨0, 4294967295⟩, ⟨0, 1⟩, ⟨0, 4294967295⟩, ⟨0, 4294967295⟩, ⟨0, 4294967295⟩, ⟨0, 4294967295⟩, ⟨0, 4294967295⟩, ⟨0, 4294967295⟩]
def t24 : VC :=
 (.call 44 (.e (.var 0) (.e (.var 1) (.e (.var 2) (.e (.var 3) (.e (.var 4) (.e (.var 5) (.e (.var 6) .nil))))))) 1
 (.ite (.eq (.var 14) (.lit 1))
  (.call 44 (.e (.var 7) (.e (.var 8) (.e (.var 9) (.e (.var 10) (.e (.var 11) (.e (.var 12) (.e (.var 13) .nil))))))) 1
  (.ite (.not (.eq (.var 15) (.lit 1)))
   (.fin (.e (.lit 0) (.e (.lit 0) (.e (.lit 0) (.e (.lit 0) (.e (.lit 0) (.e (.lit 0) (.e (.lit 0) (.e (.lit 0) (.e (.lit 0) (.e (.lit 0) (.e (.lit 0) (.e (.lit 0) (.e (.lit 0) (.e (.lit 0) (.e (.lit 1) .nil))))))))))))))))
   (.call 50 (.e (.var 8) (.e (.var 9) (.e (.var 10) (.e (.var 11) (.e (.var 12) (.e (.var 13) .nil)))))) 1
   (.ite (.eq (.var 16) (.lit 1))
    (.fin (.e (.lit 0) (.e (.lit 0) (.e (.lit 0) (.e (.lit 0) (.e (.lit 0) (.e (.lit 0) (.e (.lit 0) (.e (.lit 0) (.e (.lit 0) (.e (.lit 0) (.e (.lit 0) (.e (.lit 0) (.e (.lit 0) (.e (.lit 0) (.e (.lit 4) .nil))))))))))))))))
    (.need [(.pre 61 (.e (.var 1) (.e (.var 2) (.e (.var 3) (.e (.var 4) (.e (.var 5) (.e (.var 6) (.e (.var 8) (.e (.var 9) (.e (.var 10) (.e (.var 11) (.e (.var 12) (.e (.var 13) .nil)))))))))))))]
    (.call 61 (.e (.var 1) (.e (.var 2) (.e (.var 3) (.e (.var 4) (.e (.var 5) (.e (.var 6) (.e (.var 8) (.e (.var 9) (.e (.var 10) (.e (.var 11) (.e (.var 12) (.e (.var 13) .nil)))))))))))) 12
    (.bind (.ite (.not (.beq (.eq (.var 0) (.lit 1)) (.eq (.var 7) (.lit 1)))) (.lit 1) (.lit 0))
    (.ite (.eq (.var 29) (.lit 1))
     (.call 50 (.e (.var 23) (.e (.var 24) (.e (.var 25) (.e (.var 26) (.e (.var 27) (.e (.var 28) .nil)))))) 1
     (.ite (.not (.eq (.var 30) (.lit 1)))
      (.call 57 (.e (.var 17) (.e (.var 18) (.e (.var 19) (.e (.var 20) (.e (.var 21) (.e (.var 22) .nil)))))) 6
      (.call 55 (.e (.var 8) (.e (.var 9) (.e (.var 10) (.e (.var 11) (.e (.var 12) (.e (.var 13) (.e (.var 23) (.e (.var 24) (.e (.var 25) (.e (.var 26) (.e (.var 27) (.e (.var 28) .nil)))))))))))) 6
      (.call 58 (.e (.var 29) (.e (.var 31) (.e (.var 32) (.e (.var 33) (.e (.var 34) (.e (.var 35) (.e (.var 36) .nil))))))) 7
      (.call 58 (.e (.var 7) (.e (.var 37) (.e (.var 38) (.e (.var 39) (.e (.var 40) (.e (.var 41) (.e (.var 42) .nil))))))) 7
      (.fin (.e (.var 43) (.e (.var 44) (.e (.var 45) (.e (.var 46) (.e (.var 47) (.e (.var 48) (.e (.var 49) (.e (.var 50) (.e (.var 51) (.e (.var 52) (.e (.var 53) (.e (.var 54) (.e (.var 55) (.e (.var 56) (.e (.lit 0) .nil))))))))))))))))))))
      (.call 58 (.e (.var 29) (.e (.var 17) (.e (.var 18) (.e (.var 19) (.e (.var 20) (.e (.var 21) (.e (.var 22) .nil))))))) 7
      (.call 58 (.e (.var 7) (.e (.var 23) (.e (.var 24) (.e (.var 25) (.e (.var 26) (.e (.var 27) (.e (.var 28) .nil))))))) 7
      (.fin (.e (.var 31) (.e (.var 32) (.e (.var 33) (.e (.var 34) (.e (.var 35) (.e (.var 36) (.e (.var 37) (.e (.var 38) (.e (.var 39) (.e (.var 40) (.e (.var 41) (.e (.var 42) (.e (.var 43) (.e (.var 44) (.e (.lit 0) .nil))))))))))))))))))))
     (.call 58 (.e (.var 29) (.e (.var 17) (.e (.var 18) (.e (.var 19) (.e (.var 20) (.e (.var 21) (.e (.var 22) .nil))))))) 7
     (.call 58 (.e (.var 7) (.e (.var 23) (.e (.var 24) (.e (.var 25) (.e (.var 26) (.e (.var 27) (.e (.var 28) .nil))))))) 7
     (.fin (.e (.var 30) (.e (.var 31) (.e (.var 32) (.e (.var 33) (.e (.var 34) (.e (.var 35) (.e (.var 36) (.e (.var 37) (.e (.var 38) (.e (.var 39) (.e (.var 40) (.e (.var 41) (.e (.var 42) (.e (.var 43) (.e (.lit 0) .nil))))))))))))))))))))))))))
  (.fin (.e (.lit 0) (.e (.lit 0) (.e (.lit 0) (.e (.lit 0) (.e (.lit 0) (.e (.lit 0) (.e (.lit 0) (.e (.lit 0) (.e (.lit 0) (.e (.lit 0) (.e (.lit 0) (.e (.lit 0) (.e (.lit 0) (.e (.lit 0) (.e (.lit 1) .nil))))))))))))))))))
theorem v24 : vcOfI ⟨c24, []⟩ iv24 250 Try.f24 s24 = t24 := by kernel_rfl
set_option linter.unusedVariables false in
def p24 (T : Tab) (I : Nat → List Int → List Int → Prop) (M : Nat → List Int → List Int → Nat) (pre : Nat → List Int → Prop) (post : List Int → Prop) (v0 v1 v2 v3 v4 v5 v6 v7 v8 v9 v10 v11 v12 v13 : Int) : Prop :=
 ∀ v14 : Int, [v14] = T.out 44 1 [v0, v1, v2, v3, v4, v5, v6] →
 ((decide ((v14 : Int) = 1) = true →
  ∀ v15 : Int, [v15] = T.out 44 1 [v7, v8, v9, v10, v11, v12, v13] →
  (((!decide ((v15 : Int) = 1)) = true →
   post [0, 0, 0, 0, 0, 0, 0, 0, 0, 0, 0, 0, 0, 0, 1]) ∧ ((!decide ((v15 : Int) = 1)) = false →
   ∀ v16 : Int, [v16] = T.out 50 1 [v8, v9, v10, v11, v12, v13] →
   ((decide ((v16 : Int) = 1) = true →
    post [0, 0, 0, 0, 0, 0, 0, 0, 0, 0, 0, 0, 0, 0, 4]) ∧ (decide ((v16 : Int) = 1) = false →
    ((pre 61 [v1, v2, v3, v4, v5, v6, v8, v9, v10, v11, v12, v13]) ∧ ((pre 61 [v1, v2, v3, v4, v5, v6, v8, v9, v10, v11, v12, v13]) →
    ∀ v17 v18 v19 v20 v21 v22 v23 v24 v25 v26 v27 v28 : Int, [v17, v18, v19, v20, v21, v22, v23, v24, v25, v26, v27, v28] = T.out 61 12 [v1, v2, v3, v4, v5, v6, v8, v9, v10, v11, v12, v13] →
    ∀ v29 : Int, v29 = (if (!(decide ((v0 : Int) = 1) == decide ((v7 : Int) = 1))) = true then 1 else 0) →
    ((decide ((v29 : Int) = 1) = true →
     ∀ v30 : Int, [v30] = T.out 50 1 [v23, v24, v25, v26, v27, v28] →
     (((!decide ((v30 : Int) = 1)) = true →
      ∀ v31 v32 v33 v34 v35 v36 : Int, [v31, v32, v33, v34, v35, v36] = T.out 57 6 [v17, v18, v19, v20, v21, v22] →
      ∀ v37 v38 v39 v40 v41 v42 : Int, [v37, v38, v39, v40, v41, v42] = T.out 55 6 [v8, v9, v10, v11, v12, v13, v23, v24, v25, v26, v27, v28] →
      ∀ v43 v44 v45 v46 v47 v48 v49 : Int, [v43, v44, v45, v46, v47, v48, v49] = T.out 58 7 [v29, v31, v32, v33, v34, v35, v36] →
      ∀ v50 v51 v52 v53 v54 v55 v56 : Int, [v50, v51, v52, v53, v54, v55, v56] = T.out 58 7 [v7, v37, v38, v39, v40, v41, v42] →
      post [v43, v44, v45, v46, v47, v48, v49, v50, v51, v52, v53, v54, v55, v56, 0]) ∧ ((!decide ((v30 : Int) = 1)) = false →
      ∀ v31 v32 v33 v34 v35 v36 v37 : Int, [v31, v32, v33, v34, v35, v36, v37] = T.out 58 7 [v29, v17, v18, v19, v20, v21, v22] →
      ∀ v38 v39 v40 v41 v42 v43 v44 : Int, [v38, v39, v40, v41, v42, v43, v44] = T.out 58 7 [v7, v23, v24, v25, v26, v27, v28] →
      post [v31, v32, v33, v34, v35, v36, v37, v38, v39, v40, v41, v42, v43, v44, 0]))) ∧ (decide ((v29 : Int) = 1) = false →
     ∀ v30 v31 v32 v33 v34 v35 v36 : Int, [v30, v31, v32, v33, v34, v35, v36] = T.out 58 7 [v29, v17, v18, v19, v20, v21, v22] →
     ∀ v37 v38 v39 v40 v41 v42 v43 : Int, [v37, v38, v39, v40, v41, v42, v43] = T.out 58 7 [v7, v23, v24, v25, v26, v27, v28] →
     post [v30, v31, v32, v33, v34, v35, v36, v37, v38, v39, v40, v41, v42, v43, 0]))))))))) ∧ (decide ((v14 : Int) = 1) = false →
  post [0, 0, 0, 0, 0, 0, 0, 0, 0, 0, 0, 0, 0, 0, 1]))
theorem q24 (T : Tab) (I : Nat → List Int → List Int → Prop) (M : Nat → List Int → List Int → Nat) (pre : Nat → List Int → Prop) (post : List Int → Prop) (v0 v1 v2 v3 v4 v5 v6 v7 v8 v9 v10 v11 v12 v13 : Int) : t24.plain T (presL pre I M) post ⟨[v0, v1, v2, v3, v4, v5, v6, v7, v8, v9, v10, v11, v12, v13], []⟩ = p24 T I M pre post v0 v1 v2 v3 v4 v5 v6 v7 v8 v9 v10 v11 v12 v13 := by kernel_rfl
theorem k24 (T : Tab) (I : Nat → List Int → List Int → Prop) (M : Nat → List Int → List Int → Nat) (pre : Nat → List Int → Prop) (hs : SubSig T c24.sigs) (ht : Tot pre c24.sigs) (hg : T.sig 24 = some s24) (hC : CtAll Try.prog T.fns (pres pre) c24.sigs)
    (h : ∀ (v0 v1 v2 v3 v4 v5 v6 v7 v8 v9 v10 v11 v12 v13 : Int), (0 ≤ v0 ∧ v0 ≤ 1) → (0 ≤ v1 ∧ v1 ≤ 4294967295) → (0 ≤ v2 ∧ v2 ≤ 4294967295) → (0 ≤ v3 ∧ v3 ≤ 4294967295) → (0 ≤ v4 ∧ v4 ≤ 4294967295) → (0 ≤ v5 ∧ v5 ≤ 4294967295) → (0 ≤ v6 ∧ v6 ≤ 4294967295) → (0 ≤ v7 ∧ v7 ≤ 1) → (0 ≤ v8 ∧ v8 ≤ 4294967295) → (0 ≤ v9 ∧ v9 ≤ 4294967295) → (0 ≤ v10 ∧ v10 ≤ 4294967295) → (0 ≤ v11 ∧ v11 ≤ 4294967295) → (0 ≤ v12 ∧ v12 ≤ 4294967295) → (0 ≤ v13 ∧ v13 ≤ 4294967295) → pre 24 [v0, v1, v2, v3, v4, v5, v6, v7, v8, v9, v10, v11, v12, v13] → p24 T I M pre (fun ys => ys = T.fn 24 [v0, v1, v2, v3, v4, v5, v6, v7, v8, v9, v10, v11, v12, v13]) v0 v1 v2 v3 v4 v5 v6 v7 v8 v9 v10 v11 v12 v13) : CT Try.prog T.fns (pres pre) 24 s24 :=
  T.ctq (F := ⟨c24, []⟩) (fuel := 250) v24 Try.checked.mixed hs ht hg hC Try.func24 I M (fun _ h _ => h) fun xs hx hp => by
    match xs, hx, hp with
    | [v0, v1, v2, v3, v4, v5, v6, v7, v8, v9, v10, v11, v12, v13], hx, hp => rw [q24]; exact h v0 v1 v2 v3 v4 v5 v6 v7 v8 v9 v10 v11 v12 v13 hx.1 hx.2.1 hx.2.2.1 hx.2.2.2.1 hx.2.2.2.2.1 hx.2.2.2.2.2.1 hx.2.2.2.2.2.2.1 hx.2.2.2.2.2.2.2.1 hx.2.2.2.2.2.2.2.2.1 hx.2.2.2.2.2.2.2.2.2.1 hx.2.2.2.2.2.2.2.2.2.2.1 hx.2.2.2.2.2.2.2.2.2.2.2.1 hx.2.2.2.2.2.2.2.2.2.2.2.2.1 hx.2.2.2.2.2.2.2.2.2.2.2.2.2.1 hp

end Go.Proofs.Ytmlmdicdblgcfaa.Sx
