/-
  What the symbolic executor asks of these functions, written out by a program of mine, and that it asks just this.
-/
import Derived.Test.YtppbanmlifikpabV2s
import Derived.Test.YtppbanmlifikpabChecked
import Derived.KernelRfl
namespace Go.Proofs.Ytppbanmlifikpab.Sx
open Go Go.RowKit
/-- loop.example/g01242/spec.l01UpMag -/
noncomputable def c74 : Cfg := ⟨Try.prog, [(81, s81), (62, s62)]⟩
def iv74 : List Iv := [⟨0, 4294967295⟩, ⟨0, 4294967295⟩, ⟨0, 4294967295⟩, ⟨0, 4294967295⟩, ⟨0, 4294967295⟩, ⟨0, 4294967295⟩, ⟨0, 191⟩]
def t74 : VC :=
 (.call 81 (.e (.var 0) (.e (.var 1) (.e (.var 2) (.e (.var 3) (.e (.var 4) (.e (.var 5) .nil)))))) 1
 (.ite (.lt (.lit 192) (.add (.var 7) (.var 6)))
  (.call 62 (.e (.var 0) (.e (.var 1) (.e (.var 2) (.e (.var 3) (.e (.var 4) (.e (.var 5) .nil)))))) 1
  (.ite (.not (.eq (.var 8) (.lit 1)))
   (.fin (.e (.lit 0) (.e (.lit 0) (.e (.lit 0) (.e (.lit 0) (.e (.lit 0) (.e (.lit 0) (.e (.lit 0) .nil))))))))
   (.loop 0 [(.lit 0), (.lit 0), (.lit 0), (.lit 0), (.lit 0), (.lit 0), (.lit 0)] [⟨0, 6⟩, ⟨0, 4294967295⟩, ⟨0, 4294967295⟩, ⟨0, 4294967295⟩, ⟨0, 4294967295⟩, ⟨0, 4294967295⟩, ⟨0, 4294967295⟩]
    (.ite (.lt (.var 9) (.lit 6))
     (.bind (.add (.var 9) (.div (.var 6) (.lit 32)))
     (.ite (.le (.lit 6) (.var 16))
      (.fin (.e (.var 10) (.e (.var 11) (.e (.var 12) (.e (.var 13) (.e (.var 14) (.e (.var 15) (.e (.lit 1) .nil))))))))
      (.bind (.ite (.eq (.var 9) (.lit 0)) (.var 0) (.ite (.eq (.var 9) (.lit 1)) (.var 1) (.ite (.eq (.var 9) (.lit 2)) (.var 2) (.ite (.eq (.var 9) (.lit 3)) (.var 3) (.ite (.eq (.var 9) (.lit 4)) (.var 4) (.var 5))))))
      (.bind (.mul (.var 17) (.pow2 (.mod (.var 6) (.lit 32))))
      (.bind (.ite (.eq (.var 16) (.lit 0)) (.var 10) (.ite (.eq (.var 16) (.lit 1)) (.var 11) (.ite (.eq (.var 16) (.lit 2)) (.var 12) (.ite (.eq (.var 16) (.lit 3)) (.var 13) (.ite (.eq (.var 16) (.lit 4)) (.var 14) (.var 15))))))
      (.bind (.ite (.eq (.var 16) (.lit 0)) (.bits .or .u32 (.var 19) (.wrap .u32 (.var 18))) (.var 10))
      (.bind (.ite (.eq (.var 16) (.lit 1)) (.bits .or .u32 (.var 19) (.wrap .u32 (.var 18))) (.var 11))
      (.bind (.ite (.eq (.var 16) (.lit 2)) (.bits .or .u32 (.var 19) (.wrap .u32 (.var 18))) (.var 12))
      (.bind (.ite (.eq (.var 16) (.lit 3)) (.bits .or .u32 (.var 19) (.wrap .u32 (.var 18))) (.var 13))
      (.bind (.ite (.eq (.var 16) (.lit 4)) (.bits .or .u32 (.var 19) (.wrap .u32 (.var 18))) (.var 14))
      (.bind (.ite (.eq (.var 16) (.lit 5)) (.bits .or .u32 (.var 19) (.wrap .u32 (.var 18))) (.var 15))
      (.ite (.lt (.add (.var 16) (.lit 1)) (.lit 6))
       (.need [(.b (.lt (.add (.var 16) (.lit 1)) (.lit 6)))]
       (.bind (.ite (.eq (.add (.var 16) (.lit 1)) (.lit 0)) (.var 20) (.ite (.eq (.add (.var 16) (.lit 1)) (.lit 1)) (.var 21) (.ite (.eq (.add (.var 16) (.lit 1)) (.lit 2)) (.var 22) (.ite (.eq (.add (.var 16) (.lit 1)) (.lit 3)) (.var 23) (.ite (.eq (.add (.var 16) (.lit 1)) (.lit 4)) (.var 24) (.var 25))))))
       (.need [(.b (.lt (.add (.var 16) (.lit 1)) (.lit 6)))]
       (.bind (.ite (.eq (.add (.var 16) (.lit 1)) (.lit 0)) (.bits .or .u32 (.var 26) (.div (.var 18) (.lit 4294967296))) (.var 20))
       (.bind (.ite (.eq (.add (.var 16) (.lit 1)) (.lit 1)) (.bits .or .u32 (.var 26) (.div (.var 18) (.lit 4294967296))) (.var 21))
       (.bind (.ite (.eq (.add (.var 16) (.lit 1)) (.lit 2)) (.bits .or .u32 (.var 26) (.div (.var 18) (.lit 4294967296))) (.var 22))
       (.bind (.ite (.eq (.add (.var 16) (.lit 1)) (.lit 3)) (.bits .or .u32 (.var 26) (.div (.var 18) (.lit 4294967296))) (.var 23))
       (.bind (.ite (.eq (.add (.var 16) (.lit 1)) (.lit 4)) (.bits .or .u32 (.var 26) (.div (.var 18) (.lit 4294967296))) (.var 24))
       (.bind (.ite (.eq (.add (.var 16) (.lit 1)) (.lit 5)) (.bits .or .u32 (.var 26) (.div (.var 18) (.lit 4294967296))) (.var 25))
       (.again 0 9 [⟨0, 6⟩, ⟨0, 4294967295⟩, ⟨0, 4294967295⟩, ⟨0, 4294967295⟩, ⟨0, 4294967295⟩, ⟨0, 4294967295⟩, ⟨0, 4294967295⟩] [(.add (.var 9) (.lit 1)), (.var 27), (.var 28), (.var 29), (.var 30), (.var 31), (.var 32)]))))))))))
       (.again 0 9 [⟨0, 6⟩, ⟨0, 4294967295⟩, ⟨0, 4294967295⟩, ⟨0, 4294967295⟩, ⟨0, 4294967295⟩, ⟨0, 4294967295⟩, ⟨0, 4294967295⟩] [(.add (.var 9) (.lit 1)), (.var 20), (.var 21), (.var 22), (.var 23), (.var 24), (.var 25)])))))))))))))
     (.fin (.e (.var 10) (.e (.var 11) (.e (.var 12) (.e (.var 13) (.e (.var 14) (.e (.var 15) (.e (.lit 1) .nil))))))))))))
  (.loop 0 [(.lit 0), (.lit 0), (.lit 0), (.lit 0), (.lit 0), (.lit 0), (.lit 0)] [⟨0, 6⟩, ⟨0, 4294967295⟩, ⟨0, 4294967295⟩, ⟨0, 4294967295⟩, ⟨0, 4294967295⟩, ⟨0, 4294967295⟩, ⟨0, 4294967295⟩]
   (.ite (.lt (.var 8) (.lit 6))
    (.bind (.add (.var 8) (.div (.var 6) (.lit 32)))
    (.ite (.le (.lit 6) (.var 15))
     (.fin (.e (.var 9) (.e (.var 10) (.e (.var 11) (.e (.var 12) (.e (.var 13) (.e (.var 14) (.e (.lit 1) .nil))))))))
     (.bind (.ite (.eq (.var 8) (.lit 0)) (.var 0) (.ite (.eq (.var 8) (.lit 1)) (.var 1) (.ite (.eq (.var 8) (.lit 2)) (.var 2) (.ite (.eq (.var 8) (.lit 3)) (.var 3) (.ite (.eq (.var 8) (.lit 4)) (.var 4) (.var 5))))))
     (.bind (.mul (.var 16) (.pow2 (.mod (.var 6) (.lit 32))))
     (.bind (.ite (.eq (.var 15) (.lit 0)) (.var 9) (.ite (.eq (.var 15) (.lit 1)) (.var 10) (.ite (.eq (.var 15) (.lit 2)) (.var 11) (.ite (.eq (.var 15) (.lit 3)) (.var 12) (.ite (.eq (.var 15) (.lit 4)) (.var 13) (.var 14))))))
     (.bind (.ite (.eq (.var 15) (.lit 0)) (.bits .or .u32 (.var 18) (.wrap .u32 (.var 17))) (.var 9))
     (.bind (.ite (.eq (.var 15) (.lit 1)) (.bits .or .u32 (.var 18) (.wrap .u32 (.var 17))) (.var 10))
     (.bind (.ite (.eq (.var 15) (.lit 2)) (.bits .or .u32 (.var 18) (.wrap .u32 (.var 17))) (.var 11))
     (.bind (.ite (.eq (.var 15) (.lit 3)) (.bits .or .u32 (.var 18) (.wrap .u32 (.var 17))) (.var 12))
     (.bind (.ite (.eq (.var 15) (.lit 4)) (.bits .or .u32 (.var 18) (.wrap .u32 (.var 17))) (.var 13))
     (.bind (.ite (.eq (.var 15) (.lit 5)) (.bits .or .u32 (.var 18) (.wrap .u32 (.var 17))) (.var 14))
     (.ite (.lt (.add (.var 15) (.lit 1)) (.lit 6))
      (.need [(.b (.lt (.add (.var 15) (.lit 1)) (.lit 6)))]
      (.bind (.ite (.eq (.add (.var 15) (.lit 1)) (.lit 0)) (.var 19) (.ite (.eq (.add (.var 15) (.lit 1)) (.lit 1)) (.var 20) (.ite (.eq (.add (.var 15) (.lit 1)) (.lit 2)) (.var 21) (.ite (.eq (.add (.var 15) (.lit 1)) (.lit 3)) (.var 22) (.ite (.eq (.add (.var 15) (.lit 1)) (.lit 4)) (.var 23) (.var 24))))))
      (.need [(.b (.lt (.add (.var 15) (.lit 1)) (.lit 6)))]
      (.bind (.ite (.eq (.add (.var 15) (.lit 1)) (.lit 0)) (.bits .or .u32 (.var 25) (.div (.var 17) (.lit 4294967296))) (.var 19))
      (.bind (.ite (.eq (.add (.var 15) (.lit 1)) (.lit 1)) (.bits .or .u32 (.var 25) (.div (.var 17) (.lit 4294967296))) (.var 20))
      (.bind (.ite (.eq (.add (.var 15) (.lit 1)) (.lit 2)) (.bits .or .u32 (.var 25) (.div (.var 17) (.lit 4294967296))) (.var 21))
      (.bind (.ite (.eq (.add (.var 15) (.lit 1)) (.lit 3)) (.bits .or .u32 (.var 25) (.div (.var 17) (.lit 4294967296))) (.var 22))
      (.bind (.ite (.eq (.add (.var 15) (.lit 1)) (.lit 4)) (.bits .or .u32 (.var 25) (.div (.var 17) (.lit 4294967296))) (.var 23))
      (.bind (.ite (.eq (.add (.var 15) (.lit 1)) (.lit 5)) (.bits .or .u32 (.var 25) (.div (.var 17) (.lit 4294967296))) (.var 24))
      (.again 0 8 [⟨0, 6⟩, ⟨0, 4294967295⟩, ⟨0, 4294967295⟩, ⟨0, 4294967295⟩, ⟨0, 4294967295⟩, ⟨0, 4294967295⟩, ⟨0, 4294967295⟩] [(.add (.var 8) (.lit 1)), (.var 26), (.var 27), (.var 28), (.var 29), (.var 30), (.var 31)]))))))))))
      (.again 0 8 [⟨0, 6⟩, ⟨0, 4294967295⟩, ⟨0, 4294967295⟩, ⟨0, 4294967295⟩, ⟨0, 4294967295⟩, ⟨0, 4294967295⟩, ⟨0, 4294967295⟩] [(.add (.var 8) (.lit 1)), (.var 19), (.var 20), (.var 21), (.var 22), (.var 23), (.var 24)])))))))))))))
    (.fin (.e (.var 9) (.e (.var 10) (.e (.var 11) (.e (.var 12) (.e (.var 13) (.e (.var 14) (.e (.lit 1) .nil))))))))))))
theorem v74 : vcOfI ⟨c74, [(5, ⟨0, [7], [2], [22, 23, 26, 27, 28, 29, 8, 30, 31, 32, 33, 34, 35, 36, 37, 38, 39, 40, 41, 9, 42, 43, 44, 45, 46, 47, 48, 49, 50, 51, 52, 53, 54, 55, 56, 57, 58, 59, 60, 24, 25], [⟨0, 6⟩, ⟨0, 4294967295⟩, ⟨0, 4294967295⟩, ⟨0, 4294967295⟩, ⟨0, 4294967295⟩, ⟨0, 4294967295⟩, ⟨0, 4294967295⟩]⟩)]⟩ iv74 250 Try.f74 s74 = t74 := by kernel_rfl
set_option linter.unusedVariables false in
def p74 (T : Tab) (I : Nat → List Int → List Int → Prop) (M : Nat → List Int → List Int → Nat) (pre : Nat → List Int → Prop) (post : List Int → Prop) (v0 v1 v2 v3 v4 v5 v6 : Int) : Prop :=
 ∀ v7 : Int, [v7] = T.out 81 1 [v0, v1, v2, v3, v4, v5] →
 ((decide ((192 : Int) < (v7 + v6)) = true →
  ∀ v8 : Int, [v8] = T.out 62 1 [v0, v1, v2, v3, v4, v5] →
  (((!decide ((v8 : Int) = 1)) = true →
   post [0, 0, 0, 0, 0, 0, 0]) ∧ ((!decide ((v8 : Int) = 1)) = false →
   ((allHas [⟨0, 6⟩, ⟨0, 4294967295⟩, ⟨0, 4294967295⟩, ⟨0, 4294967295⟩, ⟨0, 4294967295⟩, ⟨0, 4294967295⟩, ⟨0, 4294967295⟩] [0, 0, 0, 0, 0, 0, 0] ∧ I 0 [v0, v1, v2, v3, v4, v5, v6, v7, v8] [0, 0, 0, 0, 0, 0, 0]) ∧ ∀ v9 v10 v11 v12 v13 v14 v15 : Int, allHas [⟨0, 6⟩, ⟨0, 4294967295⟩, ⟨0, 4294967295⟩, ⟨0, 4294967295⟩, ⟨0, 4294967295⟩, ⟨0, 4294967295⟩, ⟨0, 4294967295⟩] [v9, v10, v11, v12, v13, v14, v15] → I 0 [v0, v1, v2, v3, v4, v5, v6, v7, v8] [v9, v10, v11, v12, v13, v14, v15] →
    ((decide ((v9 : Int) < 6) = true →
     ∀ v16 : Int, v16 = (v9 + (v6 / 32)) →
     ((decide ((6 : Int) ≤ v16) = true →
      post [v10, v11, v12, v13, v14, v15, 1]) ∧ (decide ((6 : Int) ≤ v16) = false →
      ∀ v17 : Int, v17 = (if decide ((v9 : Int) = 0) = true then v0 else (if decide ((v9 : Int) = 1) = true then v1 else (if decide ((v9 : Int) = 2) = true then v2 else (if decide ((v9 : Int) = 3) = true then v3 else (if decide ((v9 : Int) = 4) = true then v4 else v5))))) →
      ∀ v18 : Int, v18 = (v17 * (2 ^ ((v6 % 32) : Int).toNat)) →
      ∀ v19 : Int, v19 = (if decide ((v16 : Int) = 0) = true then v10 else (if decide ((v16 : Int) = 1) = true then v11 else (if decide ((v16 : Int) = 2) = true then v12 else (if decide ((v16 : Int) = 3) = true then v13 else (if decide ((v16 : Int) = 4) = true then v14 else v15))))) →
      ∀ v20 : Int, v20 = (if decide ((v16 : Int) = 0) = true then (bitsInt .or .u32 v19 (IntKind.wrap .u32 v18)) else v10) →
      ∀ v21 : Int, v21 = (if decide ((v16 : Int) = 1) = true then (bitsInt .or .u32 v19 (IntKind.wrap .u32 v18)) else v11) →
      ∀ v22 : Int, v22 = (if decide ((v16 : Int) = 2) = true then (bitsInt .or .u32 v19 (IntKind.wrap .u32 v18)) else v12) →
      ∀ v23 : Int, v23 = (if decide ((v16 : Int) = 3) = true then (bitsInt .or .u32 v19 (IntKind.wrap .u32 v18)) else v13) →
      ∀ v24 : Int, v24 = (if decide ((v16 : Int) = 4) = true then (bitsInt .or .u32 v19 (IntKind.wrap .u32 v18)) else v14) →
      ∀ v25 : Int, v25 = (if decide ((v16 : Int) = 5) = true then (bitsInt .or .u32 v19 (IntKind.wrap .u32 v18)) else v15) →
      ((decide (((v16 + 1) : Int) < 6) = true →
       ((decide (((v16 + 1) : Int) < 6) = true) ∧ ((decide (((v16 + 1) : Int) < 6) = true) →
       ∀ v26 : Int, v26 = (if decide (((v16 + 1) : Int) = 0) = true then v20 else (if decide (((v16 + 1) : Int) = 1) = true then v21 else (if decide (((v16 + 1) : Int) = 2) = true then v22 else (if decide (((v16 + 1) : Int) = 3) = true then v23 else (if decide (((v16 + 1) : Int) = 4) = true then v24 else v25))))) →
       ((decide (((v16 + 1) : Int) < 6) = true) ∧ ((decide (((v16 + 1) : Int) < 6) = true) →
       ∀ v27 : Int, v27 = (if decide (((v16 + 1) : Int) = 0) = true then (bitsInt .or .u32 v26 (v18 / 4294967296)) else v20) →
       ∀ v28 : Int, v28 = (if decide (((v16 + 1) : Int) = 1) = true then (bitsInt .or .u32 v26 (v18 / 4294967296)) else v21) →
       ∀ v29 : Int, v29 = (if decide (((v16 + 1) : Int) = 2) = true then (bitsInt .or .u32 v26 (v18 / 4294967296)) else v22) →
       ∀ v30 : Int, v30 = (if decide (((v16 + 1) : Int) = 3) = true then (bitsInt .or .u32 v26 (v18 / 4294967296)) else v23) →
       ∀ v31 : Int, v31 = (if decide (((v16 + 1) : Int) = 4) = true then (bitsInt .or .u32 v26 (v18 / 4294967296)) else v24) →
       ∀ v32 : Int, v32 = (if decide (((v16 + 1) : Int) = 5) = true then (bitsInt .or .u32 v26 (v18 / 4294967296)) else v25) →
       (allHas [⟨0, 6⟩, ⟨0, 4294967295⟩, ⟨0, 4294967295⟩, ⟨0, 4294967295⟩, ⟨0, 4294967295⟩, ⟨0, 4294967295⟩, ⟨0, 4294967295⟩] [(v9 + 1), v27, v28, v29, v30, v31, v32] ∧ I 0 [v0, v1, v2, v3, v4, v5, v6, v7, v8] [(v9 + 1), v27, v28, v29, v30, v31, v32] ∧ M 0 [v0, v1, v2, v3, v4, v5, v6, v7, v8] [(v9 + 1), v27, v28, v29, v30, v31, v32] < M 0 [v0, v1, v2, v3, v4, v5, v6, v7, v8] [v9, v10, v11, v12, v13, v14, v15])))))) ∧ (decide (((v16 + 1) : Int) < 6) = false →
       (allHas [⟨0, 6⟩, ⟨0, 4294967295⟩, ⟨0, 4294967295⟩, ⟨0, 4294967295⟩, ⟨0, 4294967295⟩, ⟨0, 4294967295⟩, ⟨0, 4294967295⟩] [(v9 + 1), v20, v21, v22, v23, v24, v25] ∧ I 0 [v0, v1, v2, v3, v4, v5, v6, v7, v8] [(v9 + 1), v20, v21, v22, v23, v24, v25] ∧ M 0 [v0, v1, v2, v3, v4, v5, v6, v7, v8] [(v9 + 1), v20, v21, v22, v23, v24, v25] < M 0 [v0, v1, v2, v3, v4, v5, v6, v7, v8] [v9, v10, v11, v12, v13, v14, v15])))))) ∧ (decide ((v9 : Int) < 6) = false →
     post [v10, v11, v12, v13, v14, v15, 1])))))) ∧ (decide ((192 : Int) < (v7 + v6)) = false →
  ((allHas [⟨0, 6⟩, ⟨0, 4294967295⟩, ⟨0, 4294967295⟩, ⟨0, 4294967295⟩, ⟨0, 4294967295⟩, ⟨0, 4294967295⟩, ⟨0, 4294967295⟩] [0, 0, 0, 0, 0, 0, 0] ∧ I 0 [v0, v1, v2, v3, v4, v5, v6, v7] [0, 0, 0, 0, 0, 0, 0]) ∧ ∀ v8 v9 v10 v11 v12 v13 v14 : Int, allHas [⟨0, 6⟩, ⟨0, 4294967295⟩, ⟨0, 4294967295⟩, ⟨0, 4294967295⟩, ⟨0, 4294967295⟩, ⟨0, 4294967295⟩, ⟨0, 4294967295⟩] [v8, v9, v10, v11, v12, v13, v14] → I 0 [v0, v1, v2, v3, v4, v5, v6, v7] [v8, v9, v10, v11, v12, v13, v14] →
   ((decide ((v8 : Int) < 6) = true →
    ∀ v15 : Int, v15 = (v8 + (v6 / 32)) →
    ((decide ((6 : Int) ≤ v15) = true →
     post [v9, v10, v11, v12, v13, v14, 1]) ∧ (decide ((6 : Int) ≤ v15) = false →
     ∀ v16 : Int, v16 = (if decide ((v8 : Int) = 0) = true then v0 else (if decide ((v8 : Int) = 1) = true then v1 else (if decide ((v8 : Int) = 2) = true then v2 else (if decide ((v8 : Int) = 3) = true then v3 else (if decide ((v8 : Int) = 4) = true then v4 else v5))))) →
     ∀ v17 : Int, v17 = (v16 * (2 ^ ((v6 % 32) : Int).toNat)) →
     ∀ v18 : Int, v18 = (if decide ((v15 : Int) = 0) = true then v9 else (if decide ((v15 : Int) = 1) = true then v10 else (if decide ((v15 : Int) = 2) = true then v11 else (if decide ((v15 : Int) = 3) = true then v12 else (if decide ((v15 : Int) = 4) = true then v13 else v14))))) →
     ∀ v19 : Int, v19 = (if decide ((v15 : Int) = 0) = true then (bitsInt .or .u32 v18 (IntKind.wrap .u32 v17)) else v9) →
     ∀ v20 : Int, v20 = (if decide ((v15 : Int) = 1) = true then (bitsInt .or .u32 v18 (IntKind.wrap .u32 v17)) else v10) →
     ∀ v21 : Int, v21 = (if decide ((v15 : Int) = 2) = true then (bitsInt .or .u32 v18 (IntKind.wrap .u32 v17)) else v11) →
     ∀ v22 : Int, v22 = (if decide ((v15 : Int) = 3) = true then (bitsInt .or .u32 v18 (IntKind.wrap .u32 v17)) else v12) →
     ∀ v23 : Int, v23 = (if decide ((v15 : Int) = 4) = true then (bitsInt .or .u32 v18 (IntKind.wrap .u32 v17)) else v13) →
     ∀ v24 : Int, v24 = (if decide ((v15 : Int) = 5) = true then (bitsInt .or .u32 v18 (IntKind.wrap .u32 v17)) else v14) →
     ((decide (((v15 + 1) : Int) < 6) = true →
      ((decide (((v15 + 1) : Int) < 6) = true) ∧ ((decide (((v15 + 1) : Int) < 6) = true) →
      ∀ v25 : Int, v25 = (if decide (((v15 + 1) : Int) = 0) = true then v19 else (if decide (((v15 + 1) : Int) = 1) = true then v20 else (if decide (((v15 + 1) : Int) = 2) = true then v21 else (if decide (((v15 + 1) : Int) = 3) = true then v22 else (if decide (((v15 + 1) : Int) = 4) = true then v23 else v24))))) →
      ((decide (((v15 + 1) : Int) < 6) = true) ∧ ((decide (((v15 + 1) : Int) < 6) = true) →
      ∀ v26 : Int, v26 = (if decide (((v15 + 1) : Int) = 0) = true then (bitsInt .or .u32 v25 (v17 / 4294967296)) else v19) →
      ∀ v27 : Int, v27 = (if decide (((v15 + 1) : Int) = 1) = true then (bitsInt .or .u32 v25 (v17 / 4294967296)) else v20) →
      ∀ v28 : Int, v28 = (if decide (((v15 + 1) : Int) = 2) = true then (bitsInt .or .u32 v25 (v17 / 4294967296)) else v21) →
      ∀ v29 : Int, v29 = (if decide (((v15 + 1) : Int) = 3) = true then (bitsInt .or .u32 v25 (v17 / 4294967296)) else v22) →
      ∀ v30 : Int, v30 = (if decide (((v15 + 1) : Int) = 4) = true then (bitsInt .or .u32 v25 (v17 / 4294967296)) else v23) →
      ∀ v31 : Int, v31 = (if decide (((v15 + 1) : Int) = 5) = true then (bitsInt .or .u32 v25 (v17 / 4294967296)) else v24) →
      (allHas [⟨0, 6⟩, ⟨0, 4294967295⟩, ⟨0, 4294967295⟩, ⟨0, 4294967295⟩, ⟨0, 4294967295⟩, ⟨0, 4294967295⟩, ⟨0, 4294967295⟩] [(v8 + 1), v26, v27, v28, v29, v30, v31] ∧ I 0 [v0, v1, v2, v3, v4, v5, v6, v7] [(v8 + 1), v26, v27, v28, v29, v30, v31] ∧ M 0 [v0, v1, v2, v3, v4, v5, v6, v7] [(v8 + 1), v26, v27, v28, v29, v30, v31] < M 0 [v0, v1, v2, v3, v4, v5, v6, v7] [v8, v9, v10, v11, v12, v13, v14])))))) ∧ (decide (((v15 + 1) : Int) < 6) = false →
      (allHas [⟨0, 6⟩, ⟨0, 4294967295⟩, ⟨0, 4294967295⟩, ⟨0, 4294967295⟩, ⟨0, 4294967295⟩, ⟨0, 4294967295⟩, ⟨0, 4294967295⟩] [(v8 + 1), v19, v20, v21, v22, v23, v24] ∧ I 0 [v0, v1, v2, v3, v4, v5, v6, v7] [(v8 + 1), v19, v20, v21, v22, v23, v24] ∧ M 0 [v0, v1, v2, v3, v4, v5, v6, v7] [(v8 + 1), v19, v20, v21, v22, v23, v24] < M 0 [v0, v1, v2, v3, v4, v5, v6, v7] [v8, v9, v10, v11, v12, v13, v14])))))) ∧ (decide ((v8 : Int) < 6) = false →
    post [v9, v10, v11, v12, v13, v14, 1])))))
theorem q74 (T : Tab) (I : Nat → List Int → List Int → Prop) (M : Nat → List Int → List Int → Nat) (pre : Nat → List Int → Prop) (post : List Int → Prop) (v0 v1 v2 v3 v4 v5 v6 : Int) : t74.plain T (presL pre I M) post ⟨[v0, v1, v2, v3, v4, v5, v6], []⟩ = p74 T I M pre post v0 v1 v2 v3 v4 v5 v6 := by kernel_rfl
theorem k74 (T : Tab) (I : Nat → List Int → List Int → Prop) (M : Nat → List Int → List Int → Nat) (pre : Nat → List Int → Prop) (hs : SubSig T c74.sigs) (ht : Tot pre c74.sigs) (hg : T.sig 74 = some s74) (hC : CtAll Try.prog T.fns (pres pre) c74.sigs) (hi : ∀ xs, pre 74 xs → allHas iv74 xs)
    (h : ∀ (v0 v1 v2 v3 v4 v5 v6 : Int), (0 ≤ v0 ∧ v0 ≤ 4294967295) → (0 ≤ v1 ∧ v1 ≤ 4294967295) → (0 ≤ v2 ∧ v2 ≤ 4294967295) → (0 ≤ v3 ∧ v3 ≤ 4294967295) → (0 ≤ v4 ∧ v4 ≤ 4294967295) → (0 ≤ v5 ∧ v5 ≤ 4294967295) → (0 ≤ v6 ∧ v6 ≤ 191) → pre 74 [v0, v1, v2, v3, v4, v5, v6] → p74 T I M pre (fun ys => ys = T.fn 74 [v0, v1, v2, v3, v4, v5, v6]) v0 v1 v2 v3 v4 v5 v6) : CT Try.prog T.fns (pres pre) 74 s74 :=
  T.ctq (F := ⟨c74, [(5, ⟨0, [7], [2], [22, 23, 26, 27, 28, 29, 8, 30, 31, 32, 33, 34, 35, 36, 37, 38, 39, 40, 41, 9, 42, 43, 44, 45, 46, 47, 48, 49, 50, 51, 52, 53, 54, 55, 56, 57, 58, 59, 60, 24, 25], [⟨0, 6⟩, ⟨0, 4294967295⟩, ⟨0, 4294967295⟩, ⟨0, 4294967295⟩, ⟨0, 4294967295⟩, ⟨0, 4294967295⟩, ⟨0, 4294967295⟩]⟩)]⟩) (fuel := 250) v74 Try.checked.mixed hs ht hg hC Try.func74 I M (fun xs _ h => hi xs h) fun xs hx hp => by
    match xs, hx, hp with
    | [v0, v1, v2, v3, v4, v5, v6], hx, hp => rw [q74]; exact h v0 v1 v2 v3 v4 v5 v6 hx.1 hx.2.1 hx.2.2.1 hx.2.2.2.1 hx.2.2.2.2.1 hx.2.2.2.2.2.1 hx.2.2.2.2.2.2.1 hp

/-- loop.example/g01242/spec.l01DownMag -/
noncomputable def c76 : Cfg := ⟨Try.prog, []⟩
def iv76 : List Iv := [⟨0, 4294967295⟩, ⟨0, 4294967295⟩, ⟨0, 4294967295⟩, ⟨0, 4294967295⟩, ⟨0, 4294967295⟩, ⟨0, 4294967295⟩, ⟨0, 191⟩]
def t76 : VC :=
 (.bind (.div (.var 6) (.lit 32))
 (.loop 0 [(.var 7), (.lit 0), (.lit 0), (.lit 0), (.lit 0), (.lit 0), (.lit 0)] [⟨0, 6⟩, ⟨0, 4294967295⟩, ⟨0, 4294967295⟩, ⟨0, 4294967295⟩, ⟨0, 4294967295⟩, ⟨0, 4294967295⟩, ⟨0, 4294967295⟩]
  (.ite (.lt (.var 8) (.lit 6))
   (.bind (.ite (.eq (.var 8) (.lit 0)) (.var 0) (.ite (.eq (.var 8) (.lit 1)) (.var 1) (.ite (.eq (.var 8) (.lit 2)) (.var 2) (.ite (.eq (.var 8) (.lit 3)) (.var 3) (.ite (.eq (.var 8) (.lit 4)) (.var 4) (.var 5))))))
   (.ite (.lt (.add (.var 8) (.lit 1)) (.lit 6))
    (.need [(.b (.lt (.add (.var 8) (.lit 1)) (.lit 6)))]
    (.bind (.ite (.eq (.add (.var 8) (.lit 1)) (.lit 0)) (.var 0) (.ite (.eq (.add (.var 8) (.lit 1)) (.lit 1)) (.var 1) (.ite (.eq (.add (.var 8) (.lit 1)) (.lit 2)) (.var 2) (.ite (.eq (.add (.var 8) (.lit 1)) (.lit 3)) (.var 3) (.ite (.eq (.add (.var 8) (.lit 1)) (.lit 4)) (.var 4) (.var 5))))))
    (.bind (.add (.var 15) (.mul (.var 16) (.lit 4294967296)))
    (.need [(.b (.le (.lit 0) (.sub (.var 8) (.div (.var 6) (.lit 32)))))]
    (.bind (.ite (.eq (.sub (.var 8) (.div (.var 6) (.lit 32))) (.lit 0)) (.wrap .u32 (.div (.var 17) (.pow2 (.mod (.var 6) (.lit 32))))) (.var 9))
    (.bind (.ite (.eq (.sub (.var 8) (.div (.var 6) (.lit 32))) (.lit 1)) (.wrap .u32 (.div (.var 17) (.pow2 (.mod (.var 6) (.lit 32))))) (.var 10))
    (.bind (.ite (.eq (.sub (.var 8) (.div (.var 6) (.lit 32))) (.lit 2)) (.wrap .u32 (.div (.var 17) (.pow2 (.mod (.var 6) (.lit 32))))) (.var 11))
    (.bind (.ite (.eq (.sub (.var 8) (.div (.var 6) (.lit 32))) (.lit 3)) (.wrap .u32 (.div (.var 17) (.pow2 (.mod (.var 6) (.lit 32))))) (.var 12))
    (.bind (.ite (.eq (.sub (.var 8) (.div (.var 6) (.lit 32))) (.lit 4)) (.wrap .u32 (.div (.var 17) (.pow2 (.mod (.var 6) (.lit 32))))) (.var 13))
    (.bind (.ite (.eq (.sub (.var 8) (.div (.var 6) (.lit 32))) (.lit 5)) (.wrap .u32 (.div (.var 17) (.pow2 (.mod (.var 6) (.lit 32))))) (.var 14))
    (.again 0 8 [⟨0, 6⟩, ⟨0, 4294967295⟩, ⟨0, 4294967295⟩, ⟨0, 4294967295⟩, ⟨0, 4294967295⟩, ⟨0, 4294967295⟩, ⟨0, 4294967295⟩] [(.add (.var 8) (.lit 1)), (.var 18), (.var 19), (.var 20), (.var 21), (.var 22), (.var 23)])))))))))))
    (.need [(.b (.le (.lit 0) (.sub (.var 8) (.div (.var 6) (.lit 32)))))]
    (.bind (.ite (.eq (.sub (.var 8) (.div (.var 6) (.lit 32))) (.lit 0)) (.div (.var 15) (.pow2 (.mod (.var 6) (.lit 32)))) (.var 9))
    (.bind (.ite (.eq (.sub (.var 8) (.div (.var 6) (.lit 32))) (.lit 1)) (.div (.var 15) (.pow2 (.mod (.var 6) (.lit 32)))) (.var 10))
    (.bind (.ite (.eq (.sub (.var 8) (.div (.var 6) (.lit 32))) (.lit 2)) (.div (.var 15) (.pow2 (.mod (.var 6) (.lit 32)))) (.var 11))
    (.bind (.ite (.eq (.sub (.var 8) (.div (.var 6) (.lit 32))) (.lit 3)) (.div (.var 15) (.pow2 (.mod (.var 6) (.lit 32)))) (.var 12))
    (.bind (.ite (.eq (.sub (.var 8) (.div (.var 6) (.lit 32))) (.lit 4)) (.div (.var 15) (.pow2 (.mod (.var 6) (.lit 32)))) (.var 13))
    (.bind (.ite (.eq (.sub (.var 8) (.div (.var 6) (.lit 32))) (.lit 5)) (.div (.var 15) (.pow2 (.mod (.var 6) (.lit 32)))) (.var 14))
    (.again 0 8 [⟨0, 6⟩, ⟨0, 4294967295⟩, ⟨0, 4294967295⟩, ⟨0, 4294967295⟩, ⟨0, 4294967295⟩, ⟨0, 4294967295⟩, ⟨0, 4294967295⟩] [(.add (.var 8) (.lit 1)), (.var 16), (.var 17), (.var 18), (.var 19), (.var 20), (.var 21)]))))))))))
   (.fin (.e (.var 9) (.e (.var 10) (.e (.var 11) (.e (.var 12) (.e (.var 13) (.e (.var 14) .nil))))))))))
theorem v76 : vcOfI ⟨c76, [(3, ⟨0, [6], [2], [11, 12, 15, 16, 17, 18, 19, 20, 7, 21, 22, 23, 24, 25, 26, 27, 28, 29, 30, 31, 32, 33, 34, 35, 36, 37, 38, 39, 40, 41, 42, 43, 44, 13, 14], [⟨0, 6⟩, ⟨0, 4294967295⟩, ⟨0, 4294967295⟩, ⟨0, 4294967295⟩, ⟨0, 4294967295⟩, ⟨0, 4294967295⟩, ⟨0, 4294967295⟩]⟩)]⟩ iv76 250 Try.f76 s76 = t76 := by kernel_rfl
set_option linter.unusedVariables false in
def p76 (T : Tab) (I : Nat → List Int → List Int → Prop) (M : Nat → List Int → List Int → Nat) (pre : Nat → List Int → Prop) (post : List Int → Prop) (v0 v1 v2 v3 v4 v5 v6 : Int) : Prop :=
 ∀ v7 : Int, v7 = (v6 / 32) →
 ((allHas [⟨0, 6⟩, ⟨0, 4294967295⟩, ⟨0, 4294967295⟩, ⟨0, 4294967295⟩, ⟨0, 4294967295⟩, ⟨0, 4294967295⟩, ⟨0, 4294967295⟩] [v7, 0, 0, 0, 0, 0, 0] ∧ I 0 [v0, v1, v2, v3, v4, v5, v6, v7] [v7, 0, 0, 0, 0, 0, 0]) ∧ ∀ v8 v9 v10 v11 v12 v13 v14 : Int, allHas [⟨0, 6⟩, ⟨0, 4294967295⟩, ⟨0, 4294967295⟩, ⟨0, 4294967295⟩, ⟨0, 4294967295⟩, ⟨0, 4294967295⟩, ⟨0, 4294967295⟩] [v8, v9, v10, v11, v12, v13, v14] → I 0 [v0, v1, v2, v3, v4, v5, v6, v7] [v8, v9, v10, v11, v12, v13, v14] →
  ((decide ((v8 : Int) < 6) = true →
   ∀ v15 : Int, v15 = (if decide ((v8 : Int) = 0) = true then v0 else (if decide ((v8 : Int) = 1) = true then v1 else (if decide ((v8 : Int) = 2) = true then v2 else (if decide ((v8 : Int) = 3) = true then v3 else (if decide ((v8 : Int) = 4) = true then v4 else v5))))) →
   ((decide (((v8 + 1) : Int) < 6) = true →
    ((decide (((v8 + 1) : Int) < 6) = true) ∧ ((decide (((v8 + 1) : Int) < 6) = true) →
    ∀ v16 : Int, v16 = (if decide (((v8 + 1) : Int) = 0) = true then v0 else (if decide (((v8 + 1) : Int) = 1) = true then v1 else (if decide (((v8 + 1) : Int) = 2) = true then v2 else (if decide (((v8 + 1) : Int) = 3) = true then v3 else (if decide (((v8 + 1) : Int) = 4) = true then v4 else v5))))) →
    ∀ v17 : Int, v17 = (v15 + (v16 * 4294967296)) →
    ((decide ((0 : Int) ≤ (v8 - (v6 / 32))) = true) ∧ ((decide ((0 : Int) ≤ (v8 - (v6 / 32))) = true) →
    ∀ v18 : Int, v18 = (if decide (((v8 - (v6 / 32)) : Int) = 0) = true then (IntKind.wrap .u32 (v17 / (2 ^ ((v6 % 32) : Int).toNat))) else v9) →
    ∀ v19 : Int, v19 = (if decide (((v8 - (v6 / 32)) : Int) = 1) = true then (IntKind.wrap .u32 (v17 / (2 ^ ((v6 % 32) : Int).toNat))) else v10) →
    ∀ v20 : Int, v20 = (if decide (((v8 - (v6 / 32)) : Int) = 2) = true then (IntKind.wrap .u32 (v17 / (2 ^ ((v6 % 32) : Int).toNat))) else v11) →
    ∀ v21 : Int, v21 = (if decide (((v8 - (v6 / 32)) : Int) = 3) = true then (IntKind.wrap .u32 (v17 / (2 ^ ((v6 % 32) : Int).toNat))) else v12) →
    ∀ v22 : Int, v22 = (if decide (((v8 - (v6 / 32)) : Int) = 4) = true then (IntKind.wrap .u32 (v17 / (2 ^ ((v6 % 32) : Int).toNat))) else v13) →
    ∀ v23 : Int, v23 = (if decide (((v8 - (v6 / 32)) : Int) = 5) = true then (IntKind.wrap .u32 (v17 / (2 ^ ((v6 % 32) : Int).toNat))) else v14) →
    (allHas [⟨0, 6⟩, ⟨0, 4294967295⟩, ⟨0, 4294967295⟩, ⟨0, 4294967295⟩, ⟨0, 4294967295⟩, ⟨0, 4294967295⟩, ⟨0, 4294967295⟩] [(v8 + 1), v18, v19, v20, v21, v22, v23] ∧ I 0 [v0, v1, v2, v3, v4, v5, v6, v7] [(v8 + 1), v18, v19, v20, v21, v22, v23] ∧ M 0 [v0, v1, v2, v3, v4, v5, v6, v7] [(v8 + 1), v18, v19, v20, v21, v22, v23] < M 0 [v0, v1, v2, v3, v4, v5, v6, v7] [v8, v9, v10, v11, v12, v13, v14])))))) ∧ (decide (((v8 + 1) : Int) < 6) = false →
    ((decide ((0 : Int) ≤ (v8 - (v6 / 32))) = true) ∧ ((decide ((0 : Int) ≤ (v8 - (v6 / 32))) = true) →
    ∀ v16 : Int, v16 = (if decide (((v8 - (v6 / 32)) : Int) = 0) = true then (v15 / (2 ^ ((v6 % 32) : Int).toNat)) else v9) →
    ∀ v17 : Int, v17 = (if decide (((v8 - (v6 / 32)) : Int) = 1) = true then (v15 / (2 ^ ((v6 % 32) : Int).toNat)) else v10) →
    ∀ v18 : Int, v18 = (if decide (((v8 - (v6 / 32)) : Int) = 2) = true then (v15 / (2 ^ ((v6 % 32) : Int).toNat)) else v11) →
    ∀ v19 : Int, v19 = (if decide (((v8 - (v6 / 32)) : Int) = 3) = true then (v15 / (2 ^ ((v6 % 32) : Int).toNat)) else v12) →
    ∀ v20 : Int, v20 = (if decide (((v8 - (v6 / 32)) : Int) = 4) = true then (v15 / (2 ^ ((v6 % 32) : Int).toNat)) else v13) →
    ∀ v21 : Int, v21 = (if decide (((v8 - (v6 / 32)) : Int) = 5) = true then (v15 / (2 ^ ((v6 % 32) : Int).toNat)) else v14) →
    (allHas [⟨0, 6⟩, ⟨0, 4294967295⟩, ⟨0, 4294967295⟩, ⟨0, 4294967295⟩, ⟨0, 4294967295⟩, ⟨0, 4294967295⟩, ⟨0, 4294967295⟩] [(v8 + 1), v16, v17, v18, v19, v20, v21] ∧ I 0 [v0, v1, v2, v3, v4, v5, v6, v7] [(v8 + 1), v16, v17, v18, v19, v20, v21] ∧ M 0 [v0, v1, v2, v3, v4, v5, v6, v7] [(v8 + 1), v16, v17, v18, v19, v20, v21] < M 0 [v0, v1, v2, v3, v4, v5, v6, v7] [v8, v9, v10, v11, v12, v13, v14])))))) ∧ (decide ((v8 : Int) < 6) = false →
   post [v9, v10, v11, v12, v13, v14])))
theorem q76 (T : Tab) (I : Nat → List Int → List Int → Prop) (M : Nat → List Int → List Int → Nat) (pre : Nat → List Int → Prop) (post : List Int → Prop) (v0 v1 v2 v3 v4 v5 v6 : Int) : t76.plain T (presL pre I M) post ⟨[v0, v1, v2, v3, v4, v5, v6], []⟩ = p76 T I M pre post v0 v1 v2 v3 v4 v5 v6 := by kernel_rfl
theorem k76 (T : Tab) (I : Nat → List Int → List Int → Prop) (M : Nat → List Int → List Int → Nat) (pre : Nat → List Int → Prop) (hs : SubSig T c76.sigs) (ht : Tot pre c76.sigs) (hg : T.sig 76 = some s76) (hC : CtAll Try.prog T.fns (pres pre) c76.sigs) (hi : ∀ xs, pre 76 xs → allHas iv76 xs)
    (h : ∀ (v0 v1 v2 v3 v4 v5 v6 : Int), (0 ≤ v0 ∧ v0 ≤ 4294967295) → (0 ≤ v1 ∧ v1 ≤ 4294967295) → (0 ≤ v2 ∧ v2 ≤ 4294967295) → (0 ≤ v3 ∧ v3 ≤ 4294967295) → (0 ≤ v4 ∧ v4 ≤ 4294967295) → (0 ≤ v5 ∧ v5 ≤ 4294967295) → (0 ≤ v6 ∧ v6 ≤ 191) → pre 76 [v0, v1, v2, v3, v4, v5, v6] → p76 T I M pre (fun ys => ys = T.fn 76 [v0, v1, v2, v3, v4, v5, v6]) v0 v1 v2 v3 v4 v5 v6) : CT Try.prog T.fns (pres pre) 76 s76 :=
  T.ctq (F := ⟨c76, [(3, ⟨0, [6], [2], [11, 12, 15, 16, 17, 18, 19, 20, 7, 21, 22, 23, 24, 25, 26, 27, 28, 29, 30, 31, 32, 33, 34, 35, 36, 37, 38, 39, 40, 41, 42, 43, 44, 13, 14], [⟨0, 6⟩, ⟨0, 4294967295⟩, ⟨0, 4294967295⟩, ⟨0, 4294967295⟩, ⟨0, 4294967295⟩, ⟨0, 4294967295⟩, ⟨0, 4294967295⟩]⟩)]⟩) (fuel := 250) v76 Try.checked.mixed hs ht hg hC Try.func76 I M (fun xs _ h => hi xs h) fun xs hx hp => by
    match xs, hx, hp with
    | [v0, v1, v2, v3, v4, v5, v6], hx, hp => rw [q76]; exact h v0 v1 v2 v3 v4 v5 v6 hx.1 hx.2.1 hx.2.2.1 hx.2.2.2.1 hx.2.2.2.2.1 hx.2.2.2.2.2.1 hx.2.2.2.2.2.2.1 hp

/-- loop.example/g01242/spec.l01Up -/
noncomputable def c43 : Cfg := ⟨Try.prog, [(74, s74), (64, s64)]⟩
def iv43 : List Iv := [⟨0, 1⟩, ⟨0, 4294967295⟩, ⟨0, 4294967295⟩, ⟨0, 4294967295⟩, ⟨0, 4294967295⟩, ⟨0, 4294967295⟩, ⟨0, 4294967295⟩, ⟨0, 191⟩]
def t43 : VC :=
 (.need [(.pre 74 (.e (.var 1) (.e (.var 2) (.e (.var 3) (.e (.var 4) (.e (.var 5) (.e (.var 6) (.e (.var 7) .nil))))))))]
 (.call 74 (.e (.var 1) (.e (.var 2) (.e (.var 3) (.e (.var 4) (.e (.var 5) (.e (.var 6) (.e (.var 7) .nil))))))) 7
 (.ite (.not (.eq (.var 14) (.lit 1)))
  (.fin (.e (.lit 0) (.e (.lit 0) (.e (.lit 0) (.e (.lit 0) (.e (.lit 0) (.e (.lit 0) (.e (.lit 0) (.e (.lit 3) .nil)))))))))
  (.call 64 (.e (.var 0) (.e (.var 8) (.e (.var 9) (.e (.var 10) (.e (.var 11) (.e (.var 12) (.e (.var 13) .nil))))))) 7
  (.fin (.e (.var 15) (.e (.var 16) (.e (.var 17) (.e (.var 18) (.e (.var 19) (.e (.var 20) (.e (.var 21) (.e (.lit 0) .nil)))))))))))))
theorem v43 : vcOfI ⟨c43, []⟩ iv43 250 Try.f43 s43 = t43 := by kernel_rfl
set_option linter.unusedVariables false in
def p43 (T : Tab) (I : Nat → List Int → List Int → Prop) (M : Nat → List Int → List Int → Nat) (pre : Nat → List Int → Prop) (post : List Int → Prop) (v0 v1 v2 v3 v4 v5 v6 v7 : Int) : Prop :=
 ((pre 74 [v1, v2, v3, v4, v5, v6, v7]) ∧ ((pre 74 [v1, v2, v3, v4, v5, v6, v7]) →
 ∀ v8 v9 v10 v11 v12 v13 v14 : Int, [v8, v9, v10, v11, v12, v13, v14] = T.out 74 7 [v1, v2, v3, v4, v5, v6, v7] →
 (((!decide ((v14 : Int) = 1)) = true →
  post [0, 0, 0, 0, 0, 0, 0, 3]) ∧ ((!decide ((v14 : Int) = 1)) = false →
  ∀ v15 v16 v17 v18 v19 v20 v21 : Int, [v15, v16, v17, v18, v19, v20, v21] = T.out 64 7 [v0, v8, v9, v10, v11, v12, v13] →
  post [v15, v16, v17, v18, v19, v20, v21, 0]))))
theorem q43 (T : Tab) (I : Nat → List Int → List Int → Prop) (M : Nat → List Int → List Int → Nat) (pre : Nat → List Int → Prop) (post : List Int → Prop) (v0 v1 v2 v3 v4 v5 v6 v7 : Int) : t43.plain T (presL pre I M) post ⟨[v0, v1, v2, v3, v4, v5, v6, v7], []⟩ = p43 T I M pre post v0 v1 v2 v3 v4 v5 v6 v7 := by kernel_rfl
theorem k43 (T : Tab) (I : Nat → List Int → List Int → Prop) (M : Nat → List Int → List Int → Nat) (pre : Nat → List Int → Prop) (hs : SubSig T c43.sigs) (ht : Tot pre c43.sigs) (hg : T.sig 43 = some s43) (hC : CtAll Try.prog T.fns (pres pre) c43.sigs) (hi : ∀ xs, pre 43 xs → allHas iv43 xs)
    (h : ∀ (v0 v1 v2 v3 v4 v5 v6 v7 : Int), (0 ≤ v0 ∧ v0 ≤ 1) → (0 ≤ v1 ∧ v1 ≤ 4294967295) → (0 ≤ v2 ∧ v2 ≤ 4294967295) → (0 ≤ v3 ∧ v3 ≤ 4294967295) → (0 ≤ v4 ∧ v4 ≤ 4294967295) → (0 ≤ v5 ∧ v5 ≤ 4294967295) → (0 ≤ v6 ∧ v6 ≤ 4294967295) → (0 ≤ v7 ∧ v7 ≤ 191) → pre 43 [v0, v1, v2, v3, v4, v5, v6, v7] → p43 T I M pre (fun ys => ys = T.fn 43 [v0, v1, v2, v3, v4, v5, v6, v7]) v0 v1 v2 v3 v4 v5 v6 v7) : CT Try.prog T.fns (pres pre) 43 s43 :=
  T.ctq (F := ⟨c43, []⟩) (fuel := 250) v43 Try.checked.mixed hs ht hg hC Try.func43 I M (fun xs _ h => hi xs h) fun xs hx hp => by
    match xs, hx, hp with
    | [v0, v1, v2, v3, v4, v5, v6, v7], hx, hp => rw [q43]; exact h v0 v1 v2 v3 v4 v5 v6 v7 hx.1 hx.2.1 hx.2.2.1 hx.2.2.2.1 hx.2.2.2.2.1 hx.2.2.2.2.2.1 hx.2.2.2.2.2.2.1 hx.2.2.2.2.2.2.2.1 hp

/-- loop.example/g01242/spec.l01Near -/
noncomputable def c47 : Cfg := ⟨Try.prog, [(76, s76), (74, s74), (77, s77), (78, s78), (64, s64)]⟩
def iv47 : List Iv := [⟨0, 1⟩, ⟨0, 4294967295⟩, ⟨0, 4294967295⟩, ⟨0, 4294967295⟩, ⟨0, 4294967295⟩, ⟨0, 4294967295⟩, ⟨0, 4294967295⟩, ⟨0, 191⟩]
def t47 : VC :=
 (.ite (.eq (.var 7) (.lit 0))
  (.fin (.e (.var 0) (.e (.var 1) (.e (.var 2) (.e (.var 3) (.e (.var 4) (.e (.var 5) (.e (.var 6) .nil))))))))
  (.need [(.pre 76 (.e (.var 1) (.e (.var 2) (.e (.var 3) (.e (.var 4) (.e (.var 5) (.e (.var 6) (.e (.var 7) .nil))))))))]
  (.call 76 (.e (.var 1) (.e (.var 2) (.e (.var 3) (.e (.var 4) (.e (.var 5) (.e (.var 6) (.e (.var 7) .nil))))))) 6
  (.need [(.pre 76 (.e (.var 1) (.e (.var 2) (.e (.var 3) (.e (.var 4) (.e (.var 5) (.e (.var 6) (.e (.sub (.var 7) (.lit 1)) .nil))))))))]
  (.call 76 (.e (.var 1) (.e (.var 2) (.e (.var 3) (.e (.var 4) (.e (.var 5) (.e (.var 6) (.e (.sub (.var 7) (.lit 1)) .nil))))))) 6
  (.need [(.pre 74 (.e (.var 8) (.e (.var 9) (.e (.var 10) (.e (.var 11) (.e (.var 12) (.e (.var 13) (.e (.var 7) .nil))))))))]
  (.call 74 (.e (.var 8) (.e (.var 9) (.e (.var 10) (.e (.var 11) (.e (.var 12) (.e (.var 13) (.e (.var 7) .nil))))))) 7
  (.call 77 (.e (.var 1) (.e (.var 2) (.e (.var 3) (.e (.var 4) (.e (.var 5) (.e (.var 6) (.e (.var 20) (.e (.var 21) (.e (.var 22) (.e (.var 23) (.e (.var 24) (.e (.var 25) .nil)))))))))))) 6
  (.need [(.pre 74 (.e (.lit 1) (.e (.lit 0) (.e (.lit 0) (.e (.lit 0) (.e (.lit 0) (.e (.lit 0) (.e (.sub (.var 7) (.lit 1)) .nil))))))))]
  (.call 74 (.e (.lit 1) (.e (.lit 0) (.e (.lit 0) (.e (.lit 0) (.e (.lit 0) (.e (.lit 0) (.e (.sub (.var 7) (.lit 1)) .nil))))))) 7
  (.bind (.mod (.var 14) (.lit 2))
  (.ite (.eq (.var 0) (.lit 1))
   (.bind (.ite (.or (.and (.and (.eq (.var 27) (.var 33)) (.and (.eq (.var 28) (.var 34)) (.and (.eq (.var 29) (.var 35)) (.and (.eq (.var 30) (.var 36)) (.and (.eq (.var 31) (.var 37)) (.eq (.var 32) (.var 38))))))) (.lit false)) (.and (.not (.and (.eq (.var 27) (.var 33)) (.and (.eq (.var 28) (.var 34)) (.and (.eq (.var 29) (.var 35)) (.and (.eq (.var 30) (.var 36)) (.and (.eq (.var 31) (.var 37)) (.eq (.var 32) (.var 38)))))))) (.eq (.var 40) (.lit 1)))) (.lit 1) (.lit 0))
   (.ite (.eq (.var 41) (.lit 1))
    (.call 78 (.e (.var 8) (.e (.var 9) (.e (.var 10) (.e (.var 11) (.e (.var 12) (.e (.var 13) (.e (.lit 1) (.e (.lit 0) (.e (.lit 0) (.e (.lit 0) (.e (.lit 0) (.e (.lit 0) .nil)))))))))))) 7
    (.call 64 (.e (.var 0) (.e (.var 42) (.e (.var 43) (.e (.var 44) (.e (.var 45) (.e (.var 46) (.e (.var 47) .nil))))))) 7
    (.fin (.e (.var 49) (.e (.var 50) (.e (.var 51) (.e (.var 52) (.e (.var 53) (.e (.var 54) (.e (.var 55) .nil))))))))))
    (.call 64 (.e (.var 0) (.e (.var 8) (.e (.var 9) (.e (.var 10) (.e (.var 11) (.e (.var 12) (.e (.var 13) .nil))))))) 7
    (.fin (.e (.var 42) (.e (.var 43) (.e (.var 44) (.e (.var 45) (.e (.var 46) (.e (.var 47) (.e (.var 48) .nil)))))))))))
   (.ite (.eq (.var 40) (.lit 1))
    (.call 78 (.e (.var 8) (.e (.var 9) (.e (.var 10) (.e (.var 11) (.e (.var 12) (.e (.var 13) (.e (.lit 1) (.e (.lit 0) (.e (.lit 0) (.e (.lit 0) (.e (.lit 0) (.e (.lit 0) .nil)))))))))))) 7
    (.call 64 (.e (.var 0) (.e (.var 41) (.e (.var 42) (.e (.var 43) (.e (.var 44) (.e (.var 45) (.e (.var 46) .nil))))))) 7
    (.fin (.e (.var 48) (.e (.var 49) (.e (.var 50) (.e (.var 51) (.e (.var 52) (.e (.var 53) (.e (.var 54) .nil))))))))))
    (.call 64 (.e (.var 0) (.e (.var 8) (.e (.var 9) (.e (.var 10) (.e (.var 11) (.e (.var 12) (.e (.var 13) .nil))))))) 7
    (.fin (.e (.var 41) (.e (.var 42) (.e (.var 43) (.e (.var 44) (.e (.var 45) (.e (.var 46) (.e (.var 47) .nil))))))))))))))))))))))
theorem v47 : vcOfI ⟨c47, []⟩ iv47 250 Try.f47 s47 = t47 := by kernel_rfl
set_option linter.unusedVariables false in
def p47 (T : Tab) (I : Nat → List Int → List Int → Prop) (M : Nat → List Int → List Int → Nat) (pre : Nat → List Int → Prop) (post : List Int → Prop) (v0 v1 v2 v3 v4 v5 v6 v7 : Int) : Prop :=
 ((decide ((v7 : Int) = 0) = true →
  post [v0, v1, v2, v3, v4, v5, v6]) ∧ (decide ((v7 : Int) = 0) = false →
  ((pre 76 [v1, v2, v3, v4, v5, v6, v7]) ∧ ((pre 76 [v1, v2, v3, v4, v5, v6, v7]) →
  ∀ v8 v9 v10 v11 v12 v13 : Int, [v8, v9, v10, v11, v12, v13] = T.out 76 6 [v1, v2, v3, v4, v5, v6, v7] →
  ((pre 76 [v1, v2, v3, v4, v5, v6, (v7 - 1)]) ∧ ((pre 76 [v1, v2, v3, v4, v5, v6, (v7 - 1)]) →
  ∀ v14 v15 v16 v17 v18 v19 : Int, [v14, v15, v16, v17, v18, v19] = T.out 76 6 [v1, v2, v3, v4, v5, v6, (v7 - 1)] →
  ((pre 74 [v8, v9, v10, v11, v12, v13, v7]) ∧ ((pre 74 [v8, v9, v10, v11, v12, v13, v7]) →
  ∀ v20 v21 v22 v23 v24 v25 v26 : Int, [v20, v21, v22, v23, v24, v25, v26] = T.out 74 7 [v8, v9, v10, v11, v12, v13, v7] →
  ∀ v27 v28 v29 v30 v31 v32 : Int, [v27, v28, v29, v30, v31, v32] = T.out 77 6 [v1, v2, v3, v4, v5, v6, v20, v21, v22, v23, v24, v25] →
  ((pre 74 [1, 0, 0, 0, 0, 0, (v7 - 1)]) ∧ ((pre 74 [1, 0, 0, 0, 0, 0, (v7 - 1)]) →
  ∀ v33 v34 v35 v36 v37 v38 v39 : Int, [v33, v34, v35, v36, v37, v38, v39] = T.out 74 7 [1, 0, 0, 0, 0, 0, (v7 - 1)] →
  ∀ v40 : Int, v40 = (v14 % 2) →
  ((decide ((v0 : Int) = 1) = true →
   ∀ v41 : Int, v41 = (if (((decide ((v27 : Int) = v33) && (decide ((v28 : Int) = v34) && (decide ((v29 : Int) = v35) && (decide ((v30 : Int) = v36) && (decide ((v31 : Int) = v37) && decide ((v32 : Int) = v38)))))) && false) || ((!(decide ((v27 : Int) = v33) && (decide ((v28 : Int) = v34) && (decide ((v29 : Int) = v35) && (decide ((v30 : Int) = v36) && (decide ((v31 : Int) = v37) && decide ((v32 : Int) = v38))))))) && decide ((v40 : Int) = 1))) = true then 1 else 0) →
   ((decide ((v41 : Int) = 1) = true →
    ∀ v42 v43 v44 v45 v46 v47 v48 : Int, [v42, v43, v44, v45, v46, v47, v48] = T.out 78 7 [v8, v9, v10, v11, v12, v13, 1, 0, 0, 0, 0, 0] →
    ∀ v49 v50 v51 v52 v53 v54 v55 : Int, [v49, v50, v51, v52, v53, v54, v55] = T.out 64 7 [v0, v42, v43, v44, v45, v46, v47] →
    post [v49, v50, v51, v52, v53, v54, v55]) ∧ (decide ((v41 : Int) = 1) = false →
    ∀ v42 v43 v44 v45 v46 v47 v48 : Int, [v42, v43, v44, v45, v46, v47, v48] = T.out 64 7 [v0, v8, v9, v10, v11, v12, v13] →
    post [v42, v43, v44, v45, v46, v47, v48]))) ∧ (decide ((v0 : Int) = 1) = false →
   ((decide ((v40 : Int) = 1) = true →
    ∀ v41 v42 v43 v44 v45 v46 v47 : Int, [v41, v42, v43, v44, v45, v46, v47] = T.out 78 7 [v8, v9, v10, v11, v12, v13, 1, 0, 0, 0, 0, 0] →
    ∀ v48 v49 v50 v51 v52 v53 v54 : Int, [v48, v49, v50, v51, v52, v53, v54] = T.out 64 7 [v0, v41, v42, v43, v44, v45, v46] →
    post [v48, v49, v50, v51, v52, v53, v54]) ∧ (decide ((v40 : Int) = 1) = false →
    ∀ v41 v42 v43 v44 v45 v46 v47 : Int, [v41, v42, v43, v44, v45, v46, v47] = T.out 64 7 [v0, v8, v9, v10, v11, v12, v13] →
    post [v41, v42, v43, v44, v45, v46, v47]))))))))))))))
theorem q47 (T : Tab) (I : Nat → List Int → List Int → Prop) (M : Nat → List Int → List Int → Nat) (pre : Nat → List Int → Prop) (post : List Int → Prop) (v0 v1 v2 v3 v4 v5 v6 v7 : Int) : t47.plain T (presL pre I M) post ⟨[v0, v1, v2, v3, v4, v5, v6, v7], []⟩ = p47 T I M pre post v0 v1 v2 v3 v4 v5 v6 v7 := by kernel_rfl
theorem k47 (T : Tab) (I : Nat → List Int → List Int → Prop) (M : Nat → List Int → List Int → Nat) (pre : Nat → List Int → Prop) (hs : SubSig T c47.sigs) (ht : Tot pre c47.sigs) (hg : T.sig 47 = some s47) (hC : CtAll Try.prog T.fns (pres pre) c47.sigs) (hi : ∀ xs, pre 47 xs → allHas iv47 xs)
    (h : ∀ (v0 v1 v2 v3 v4 v5 v6 v7 : Int), (0 ≤ v0 ∧ v0 ≤ 1) → (0 ≤ v1 ∧ v1 ≤ 4294967295) → (0 ≤ v2 ∧ v2 ≤ 4294967295) → (0 ≤ v3 ∧ v3 ≤ 4294967295) → (0 ≤ v4 ∧ v4 ≤ 4294967295) → (0 ≤ v5 ∧ v5 ≤ 4294967295) → (0 ≤ v6 ∧ v6 ≤ 4294967295) → (0 ≤ v7 ∧ v7 ≤ 191) → pre 47 [v0, v1, v2, v3, v4, v5, v6, v7] → p47 T I M pre (fun ys => ys = T.fn 47 [v0, v1, v2, v3, v4, v5, v6, v7]) v0 v1 v2 v3 v4 v5 v6 v7) : CT Try.prog T.fns (pres pre) 47 s47 :=
  T.ctq (F := ⟨c47, []⟩) (fuel := 250) v47 Try.checked.mixed hs ht hg hC Try.func47 I M (fun xs _ h => hi xs h) fun xs hx hp => by
    match xs, hx, hp with
    | [v0, v1, v2, v3, v4, v5, v6, v7], hx, hp => rw [q47]; exact h v0 v1 v2 v3 v4 v5 v6 v7 hx.1 hx.2.1 hx.2.2.1 hx.2.2.2.1 hx.2.2.2.2.1 hx.2.2.2.2.2.1 hx.2.2.2.2.2.2.1 hx.2.2.2.2.2.2.2.1 hp

end Go.Proofs.Ytppbanmlifikpab.Sx
