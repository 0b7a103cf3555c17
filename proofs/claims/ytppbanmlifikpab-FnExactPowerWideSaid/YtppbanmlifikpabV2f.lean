/-
  What the symbolic executor asks of these functions, written out by a program of mine, and that it asks just this.
-/
import Derived.Test.YtppbanmlifikpabV2s
import Derived.Test.YtppbanmlifikpabChecked
import Derived.KernelRfl
namespace Go.Proofs.Ytppbanmlifikpab.Sx
open Go Go.RowKit
/-- (loop.example/g01242/impl.limbs).times -/
noncomputable def c39 : Cfg := ⟨Try.prog, [(72, s72)]⟩
def iv39 : List Iv := [⟨0, 4294967295⟩, ⟨0, 4294967295⟩, ⟨0, 4294967295⟩, ⟨0, 4294967295⟩, ⟨0, 4294967295⟩, ⟨0, 4294967295⟩, ⟨0, 4294967295⟩, ⟨0, 4294967295⟩, ⟨0, 4294967295⟩, ⟨0, 4294967295⟩, ⟨0, 4294967295⟩, ⟨0, 4294967295⟩]
def t39 : VC :=
 (.call 72 (.e (.var 0) (.e (.var 1) (.e (.var 2) (.e (.var 3) (.e (.var 4) (.e (.var 5) .nil)))))) 1
 (.call 72 (.e (.var 6) (.e (.var 7) (.e (.var 8) (.e (.var 9) (.e (.var 10) (.e (.var 11) .nil)))))) 1
 (.ite (.lt (.lit 7) (.add (.var 12) (.var 13)))
  (.fin (.e (.lit 0) (.e (.lit 0) (.e (.lit 0) (.e (.lit 0) (.e (.lit 0) (.e (.lit 0) (.e (.lit 1) .nil))))))))
  (.loop 0 [(.lit 0), (.lit 0), (.lit 0), (.lit 0), (.lit 0), (.lit 0), (.lit 0), (.lit 0)] [⟨0, 1⟩, ⟨0, 6⟩, ⟨0, 4294967295⟩, ⟨0, 4294967295⟩, ⟨0, 4294967295⟩, ⟨0, 4294967295⟩, ⟨0, 4294967295⟩, ⟨0, 4294967295⟩]
   (.ite (.lt (.var 15) (.var 12))
    (.loop 1 [(.lit 0), (.lit 0), (.var 16), (.var 17), (.var 18), (.var 19), (.var 20), (.var 21)] [⟨0, 4294967295⟩, ⟨0, 6⟩, ⟨0, 4294967295⟩, ⟨0, 4294967295⟩, ⟨0, 4294967295⟩, ⟨0, 4294967295⟩, ⟨0, 4294967295⟩, ⟨0, 4294967295⟩]
     (.ite (.lt (.var 23) (.var 13))
      (.need [(.b (.lt (.var 15) (.lit 6))), (.b (.lt (.var 23) (.lit 6))), (.b (.lt (.add (.var 15) (.var 23)) (.lit 6)))]
      (.bind (.ite (.eq (.var 15) (.lit 0)) (.var 0) (.ite (.eq (.var 15) (.lit 1)) (.var 1) (.ite (.eq (.var 15) (.lit 2)) (.var 2) (.ite (.eq (.var 15) (.lit 3)) (.var 3) (.ite (.eq (.var 15) (.lit 4)) (.var 4) (.var 5))))))
      (.bind (.ite (.eq (.var 23) (.lit 0)) (.var 6) (.ite (.eq (.var 23) (.lit 1)) (.var 7) (.ite (.eq (.var 23) (.lit 2)) (.var 8) (.ite (.eq (.var 23) (.lit 3)) (.var 9) (.ite (.eq (.var 23) (.lit 4)) (.var 10) (.var 11))))))
      (.bind (.ite (.eq (.add (.var 15) (.var 23)) (.lit 0)) (.var 24) (.ite (.eq (.add (.var 15) (.var 23)) (.lit 1)) (.var 25) (.ite (.eq (.add (.var 15) (.var 23)) (.lit 2)) (.var 26) (.ite (.eq (.add (.var 15) (.var 23)) (.lit 3)) (.var 27) (.ite (.eq (.add (.var 15) (.var 23)) (.lit 4)) (.var 28) (.var 29))))))
      (.bind (.add (.add (.mul (.ite (.eq (.var 15) (.lit 0)) (.var 0) (.ite (.eq (.var 15) (.lit 1)) (.var 1) (.ite (.eq (.var 15) (.lit 2)) (.var 2) (.ite (.eq (.var 15) (.lit 3)) (.var 3) (.ite (.eq (.var 15) (.lit 4)) (.var 4) (.var 5)))))) (.ite (.eq (.var 23) (.lit 0)) (.var 6) (.ite (.eq (.var 23) (.lit 1)) (.var 7) (.ite (.eq (.var 23) (.lit 2)) (.var 8) (.ite (.eq (.var 23) (.lit 3)) (.var 9) (.ite (.eq (.var 23) (.lit 4)) (.var 10) (.var 11))))))) (.ite (.eq (.add (.var 15) (.var 23)) (.lit 0)) (.var 24) (.ite (.eq (.add (.var 15) (.var 23)) (.lit 1)) (.var 25) (.ite (.eq (.add (.var 15) (.var 23)) (.lit 2)) (.var 26) (.ite (.eq (.add (.var 15) (.var 23)) (.lit 3)) (.var 27) (.ite (.eq (.add (.var 15) (.var 23)) (.lit 4)) (.var 28) (.var 29))))))) (.var 22))
      (.need [(.b (.lt (.add (.var 15) (.var 23)) (.lit 6)))]
      (.bind (.ite (.eq (.add (.var 15) (.var 23)) (.lit 0)) (.wrap .u32 (.var 33)) (.var 24))
      (.bind (.ite (.eq (.add (.var 15) (.var 23)) (.lit 1)) (.wrap .u32 (.var 33)) (.var 25))
      (.bind (.ite (.eq (.add (.var 15) (.var 23)) (.lit 2)) (.wrap .u32 (.var 33)) (.var 26))
      (.bind (.ite (.eq (.add (.var 15) (.var 23)) (.lit 3)) (.wrap .u32 (.var 33)) (.var 27))
      (.bind (.ite (.eq (.add (.var 15) (.var 23)) (.lit 4)) (.wrap .u32 (.var 33)) (.var 28))
      (.bind (.ite (.eq (.add (.var 15) (.var 23)) (.lit 5)) (.wrap .u32 (.var 33)) (.var 29))
      (.bind (.div (.var 33) (.lit 4294967296))
      (.again 1 22 [⟨0, 4294967295⟩, ⟨0, 6⟩, ⟨0, 4294967295⟩, ⟨0, 4294967295⟩, ⟨0, 4294967295⟩, ⟨0, 4294967295⟩, ⟨0, 4294967295⟩, ⟨0, 4294967295⟩] [(.var 40), (.add (.var 23) (.lit 1)), (.var 34), (.var 35), (.var 36), (.var 37), (.var 38), (.var 39)]))))))))))))))
      (.ite (.lt (.add (.var 15) (.var 13)) (.lit 6))
       (.need [(.b (.lt (.add (.var 15) (.var 13)) (.lit 6)))]
       (.bind (.ite (.eq (.add (.var 15) (.var 13)) (.lit 0)) (.var 22) (.var 24))
       (.bind (.ite (.eq (.add (.var 15) (.var 13)) (.lit 1)) (.var 22) (.var 25))
       (.bind (.ite (.eq (.add (.var 15) (.var 13)) (.lit 2)) (.var 22) (.var 26))
       (.bind (.ite (.eq (.add (.var 15) (.var 13)) (.lit 3)) (.var 22) (.var 27))
       (.bind (.ite (.eq (.add (.var 15) (.var 13)) (.lit 4)) (.var 22) (.var 28))
       (.bind (.ite (.eq (.add (.var 15) (.var 13)) (.lit 5)) (.var 22) (.var 29))
       (.again 0 14 [⟨0, 1⟩, ⟨0, 6⟩, ⟨0, 4294967295⟩, ⟨0, 4294967295⟩, ⟨0, 4294967295⟩, ⟨0, 4294967295⟩, ⟨0, 4294967295⟩, ⟨0, 4294967295⟩] [(.ite (.eq (.var 14) (.lit 1)) (.lit 1) (.lit 0)), (.add (.var 15) (.lit 1)), (.var 30), (.var 31), (.var 32), (.var 33), (.var 34), (.var 35)]))))))))
       (.bind (.ite (.or (.not (.eq (.var 22) (.lit 0))) (.and (.eq (.var 22) (.lit 0)) (.eq (.var 14) (.lit 1)))) (.lit 1) (.lit 0))
       (.again 0 14 [⟨0, 1⟩, ⟨0, 6⟩, ⟨0, 4294967295⟩, ⟨0, 4294967295⟩, ⟨0, 4294967295⟩, ⟨0, 4294967295⟩, ⟨0, 4294967295⟩, ⟨0, 4294967295⟩] [(.ite (.eq (.var 30) (.lit 1)) (.lit 1) (.lit 0)), (.add (.var 15) (.lit 1)), (.var 24), (.var 25), (.var 26), (.var 27), (.var 28), (.var 29)])))))
    (.fin (.e (.var 16) (.e (.var 17) (.e (.var 18) (.e (.var 19) (.e (.var 20) (.e (.var 21) (.e (.var 14) .nil)))))))))))))
theorem v39 : vcOfI ⟨c39, [(7, ⟨0, [9, 24], [3], [25, 26, 10, 11, 27, 28, 29, 30, 12, 31, 32, 33, 34, 35, 36, 37, 38, 39, 40, 41, 42, 43, 44, 45, 46, 47, 48, 13, 49, 50, 51, 52, 53, 54, 55, 56, 57, 58, 59, 60, 61, 62, 63, 64, 65, 66, 67, 68, 69, 70], [⟨0, 1⟩, ⟨0, 6⟩, ⟨0, 4294967295⟩, ⟨0, 4294967295⟩, ⟨0, 4294967295⟩, ⟨0, 4294967295⟩, ⟨0, 4294967295⟩, ⟨0, 4294967295⟩]⟩), (11, ⟨1, [11, 28], [3], [29, 30, 12, 31, 32, 33, 34, 35, 36, 37, 38, 39, 40, 41, 42, 43, 44, 45, 46, 47, 48, 13, 49, 50, 51, 52, 53, 54, 55, 56, 57], [⟨0, 4294967295⟩, ⟨0, 6⟩, ⟨0, 4294967295⟩, ⟨0, 4294967295⟩, ⟨0, 4294967295⟩, ⟨0, 4294967295⟩, ⟨0, 4294967295⟩, ⟨0, 4294967295⟩]⟩)]⟩ iv39 250 Try.f39 s39 = t39 := by kernel_rfl
set_option linter.unusedVariables false in
def p39 (T : Tab) (I : Nat → List Int → List Int → Prop) (M : Nat → List Int → List Int → Nat) (pre : Nat → List Int → Prop) (post : List Int → Prop) (v0 v1 v2 v3 v4 v5 v6 v7 v8 v9 v10 v11 : Int) : Prop :=
 ∀ v12 : Int, [v12] = T.out 72 1 [v0, v1, v2, v3, v4, v5] →
 ∀ v13 : Int, [v13] = T.out 72 1 [v6, v7, v8, v9, v10, v11] →
 ((decide ((7 : Int) < (v12 + v13)) = true →
  post [0, 0, 0, 0, 0, 0, 1]) ∧ (decide ((7 : Int) < (v12 + v13)) = false →
  ((allHas [⟨0, 1⟩, ⟨0, 6⟩, ⟨0, 4294967295⟩, ⟨0, 4294967295⟩, ⟨0, 4294967295⟩, ⟨0, 4294967295⟩, ⟨0, 4294967295⟩, ⟨0, 4294967295⟩] [0, 0, 0, 0, 0, 0, 0, 0] ∧ I 0 [v0, v1, v2, v3, v4, v5, v6, v7, v8, v9, v10, v11, v12, v13] [0, 0, 0, 0, 0, 0, 0, 0]) ∧ ∀ v14 v15 v16 v17 v18 v19 v20 v21 : Int, allHas [⟨0, 1⟩, ⟨0, 6⟩, ⟨0, 4294967295⟩, ⟨0, 4294967295⟩, ⟨0, 4294967295⟩, ⟨0, 4294967295⟩, ⟨0, 4294967295⟩, ⟨0, 4294967295⟩] [v14, v15, v16, v17, v18, v19, v20, v21] → I 0 [v0, v1, v2, v3, v4, v5, v6, v7, v8, v9, v10, v11, v12, v13] [v14, v15, v16, v17, v18, v19, v20, v21] →
   ((decide ((v15 : Int) < v12) = true →
    ((allHas [⟨0, 4294967295⟩, ⟨0, 6⟩, ⟨0, 4294967295⟩, ⟨0, 4294967295⟩, ⟨0, 4294967295⟩, ⟨0, 4294967295⟩, ⟨0, 4294967295⟩, ⟨0, 4294967295⟩] [0, 0, v16, v17, v18, v19, v20, v21] ∧ I 1 [v0, v1, v2, v3, v4, v5, v6, v7, v8, v9, v10, v11, v12, v13, v14, v15, v16, v17, v18, v19, v20, v21] [0, 0, v16, v17, v18, v19, v20, v21]) ∧ ∀ v22 v23 v24 v25 v26 v27 v28 v29 : Int, allHas [⟨0, 4294967295⟩, ⟨0, 6⟩, ⟨0, 4294967295⟩, ⟨0, 4294967295⟩, ⟨0, 4294967295⟩, ⟨0, 4294967295⟩, ⟨0, 4294967295⟩, ⟨0, 4294967295⟩] [v22, v23, v24, v25, v26, v27, v28, v29] → I 1 [v0, v1, v2, v3, v4, v5, v6, v7, v8, v9, v10, v11, v12, v13, v14, v15, v16, v17, v18, v19, v20, v21] [v22, v23, v24, v25, v26, v27, v28, v29] →
     ((decide ((v23 : Int) < v13) = true →
      ((decide ((v15 : Int) < 6) = true ∧ decide ((v23 : Int) < 6) = true ∧ decide (((v15 + v23) : Int) < 6) = true) ∧ ((decide ((v15 : Int) < 6) = true ∧ decide ((v23 : Int) < 6) = true ∧ decide (((v15 + v23) : Int) < 6) = true) →
      ∀ v30 : Int, v30 = (if decide ((v15 : Int) = 0) = true then v0 else (if decide ((v15 : Int) = 1) = true then v1 else (if decide ((v15 : Int) = 2) = true then v2 else (if decide ((v15 : Int) = 3) = true then v3 else (if decide ((v15 : Int) = 4) = true then v4 else v5))))) →
      ∀ v31 : Int, v31 = (if decide ((v23 : Int) = 0) = true then v6 else (if decide ((v23 : Int) = 1) = true then v7 else (if decide ((v23 : Int) = 2) = true then v8 else (if decide ((v23 : Int) = 3) = true then v9 else (if decide ((v23 : Int) = 4) = true then v10 else v11))))) →
      ∀ v32 : Int, v32 = (if decide (((v15 + v23) : Int) = 0) = true then v24 else (if decide (((v15 + v23) : Int) = 1) = true then v25 else (if decide (((v15 + v23) : Int) = 2) = true then v26 else (if decide (((v15 + v23) : Int) = 3) = true then v27 else (if decide (((v15 + v23) : Int) = 4) = true then v28 else v29))))) →
      ∀ v33 : Int, v33 = ((((if decide ((v15 : Int) = 0) = true then v0 else (if decide ((v15 : Int) = 1) = true then v1 else (if decide ((v15 : Int) = 2) = true then v2 else (if decide ((v15 : Int) = 3) = true then v3 else (if decide ((v15 : Int) = 4) = true then v4 else v5))))) * (if decide ((v23 : Int) = 0) = true then v6 else (if decide ((v23 : Int) = 1) = true then v7 else (if decide ((v23 : Int) = 2) = true then v8 else (if decide ((v23 : Int) = 3) = true then v9 else (if decide ((v23 : Int) = 4) = true then v10 else v11)))))) + (if decide (((v15 + v23) : Int) = 0) = true then v24 else (if decide (((v15 + v23) : Int) = 1) = true then v25 else (if decide (((v15 + v23) : Int) = 2) = true then v26 else (if decide (((v15 + v23) : Int) = 3) = true then v27 else (if decide (((v15 + v23) : Int) = 4) = true then v28 else v29)))))) + v22) →
      ((decide (((v15 + v23) : Int) < 6) = true) ∧ ((decide (((v15 + v23) : Int) < 6) = true) →
      ∀ v34 : Int, v34 = (if decide (((v15 + v23) : Int) = 0) = true then (IntKind.wrap .u32 v33) else v24) →
      ∀ v35 : Int, v35 = (if decide (((v15 + v23) : Int) = 1) = true then (IntKind.wrap .u32 v33) else v25) →
      ∀ v36 : Int, v36 = (if decide (((v15 + v23) : Int) = 2) = true then (IntKind.wrap .u32 v33) else v26) →
      ∀ v37 : Int, v37 = (if decide (((v15 + v23) : Int) = 3) = true then (IntKind.wrap .u32 v33) else v27) →
      ∀ v38 : Int, v38 = (if decide (((v15 + v23) : Int) = 4) = true then (IntKind.wrap .u32 v33) else v28) →
      ∀ v39 : Int, v39 = (if decide (((v15 + v23) : Int) = 5) = true then (IntKind.wrap .u32 v33) else v29) →
      ∀ v40 : Int, v40 = (v33 / 4294967296) →
      (allHas [⟨0, 4294967295⟩, ⟨0, 6⟩, ⟨0, 4294967295⟩, ⟨0, 4294967295⟩, ⟨0, 4294967295⟩, ⟨0, 4294967295⟩, ⟨0, 4294967295⟩, ⟨0, 4294967295⟩] [v40, (v23 + 1), v34, v35, v36, v37, v38, v39] ∧ I 1 [v0, v1, v2, v3, v4, v5, v6, v7, v8, v9, v10, v11, v12, v13, v14, v15, v16, v17, v18, v19, v20, v21] [v40, (v23 + 1), v34, v35, v36, v37, v38, v39] ∧ M 1 [v0, v1, v2, v3, v4, v5, v6, v7, v8, v9, v10, v11, v12, v13, v14, v15, v16, v17, v18, v19, v20, v21] [v40, (v23 + 1), v34, v35, v36, v37, v38, v39] < M 1 [v0, v1, v2, v3, v4, v5, v6, v7, v8, v9, v10, v11, v12, v13, v14, v15, v16, v17, v18, v19, v20, v21] [v22, v23, v24, v25, v26, v27, v28, v29])))))) ∧ (decide ((v23 : Int) < v13) = false →
      ((decide (((v15 + v13) : Int) < 6) = true →
       ((decide (((v15 + v13) : Int) < 6) = true) ∧ ((decide (((v15 + v13) : Int) < 6) = true) →
       ∀ v30 : Int, v30 = (if decide (((v15 + v13) : Int) = 0) = true then v22 else v24) →
       ∀ v31 : Int, v31 = (if decide (((v15 + v13) : Int) = 1) = true then v22 else v25) →
       ∀ v32 : Int, v32 = (if decide (((v15 + v13) : Int) = 2) = true then v22 else v26) →
       ∀ v33 : Int, v33 = (if decide (((v15 + v13) : Int) = 3) = true then v22 else v27) →
       ∀ v34 : Int, v34 = (if decide (((v15 + v13) : Int) = 4) = true then v22 else v28) →
       ∀ v35 : Int, v35 = (if decide (((v15 + v13) : Int) = 5) = true then v22 else v29) →
       (allHas [⟨0, 1⟩, ⟨0, 6⟩, ⟨0, 4294967295⟩, ⟨0, 4294967295⟩, ⟨0, 4294967295⟩, ⟨0, 4294967295⟩, ⟨0, 4294967295⟩, ⟨0, 4294967295⟩] [(if decide ((v14 : Int) = 1) = true then 1 else 0), (v15 + 1), v30, v31, v32, v33, v34, v35] ∧ I 0 [v0, v1, v2, v3, v4, v5, v6, v7, v8, v9, v10, v11, v12, v13] [(if decide ((v14 : Int) = 1) = true then 1 else 0), (v15 + 1), v30, v31, v32, v33, v34, v35] ∧ M 0 [v0, v1, v2, v3, v4, v5, v6, v7, v8, v9, v10, v11, v12, v13] [(if decide ((v14 : Int) = 1) = true then 1 else 0), (v15 + 1), v30, v31, v32, v33, v34, v35] < M 0 [v0, v1, v2, v3, v4, v5, v6, v7, v8, v9, v10, v11, v12, v13] [v14, v15, v16, v17, v18, v19, v20, v21])))) ∧ (decide (((v15 + v13) : Int) < 6) = false →
       ∀ v30 : Int, v30 = (if ((!decide ((v22 : Int) = 0)) || (decide ((v22 : Int) = 0) && decide ((v14 : Int) = 1))) = true then 1 else 0) →
       (allHas [⟨0, 1⟩, ⟨0, 6⟩, ⟨0, 4294967295⟩, ⟨0, 4294967295⟩, ⟨0, 4294967295⟩, ⟨0, 4294967295⟩, ⟨0, 4294967295⟩, ⟨0, 4294967295⟩] [(if decide ((v30 : Int) = 1) = true then 1 else 0), (v15 + 1), v24, v25, v26, v27, v28, v29] ∧ I 0 [v0, v1, v2, v3, v4, v5, v6, v7, v8, v9, v10, v11, v12, v13] [(if decide ((v30 : Int) = 1) = true then 1 else 0), (v15 + 1), v24, v25, v26, v27, v28, v29] ∧ M 0 [v0, v1, v2, v3, v4, v5, v6, v7, v8, v9, v10, v11, v12, v13] [(if decide ((v30 : Int) = 1) = true then 1 else 0), (v15 + 1), v24, v25, v26, v27, v28, v29] < M 0 [v0, v1, v2, v3, v4, v5, v6, v7, v8, v9, v10, v11, v12, v13] [v14, v15, v16, v17, v18, v19, v20, v21]))))))) ∧ (decide ((v15 : Int) < v12) = false →
    post [v16, v17, v18, v19, v20, v21, v14])))))
theorem q39 (T : Tab) (I : Nat → List Int → List Int → Prop) (M : Nat → List Int → List Int → Nat) (pre : Nat → List Int → Prop) (post : List Int → Prop) (v0 v1 v2 v3 v4 v5 v6 v7 v8 v9 v10 v11 : Int) : t39.plain T (presL pre I M) post ⟨[v0, v1, v2, v3, v4, v5, v6, v7, v8, v9, v10, v11], []⟩ = p39 T I M pre post v0 v1 v2 v3 v4 v5 v6 v7 v8 v9 v10 v11 := by kernel_rfl
theorem k39 (T : Tab) (I : Nat → List Int → List Int → Prop) (M : Nat → List Int → List Int → Nat) (pre : Nat → List Int → Prop) (hs : SubSig T c39.sigs) (ht : Tot pre c39.sigs) (hg : T.sig 39 = some s39) (hC : CtAll Try.prog T.fns (pres pre) c39.sigs)
    (h : ∀ (v0 v1 v2 v3 v4 v5 v6 v7 v8 v9 v10 v11 : Int), (0 ≤ v0 ∧ v0 ≤ 4294967295) → (0 ≤ v1 ∧ v1 ≤ 4294967295) → (0 ≤ v2 ∧ v2 ≤ 4294967295) → (0 ≤ v3 ∧ v3 ≤ 4294967295) → (0 ≤ v4 ∧ v4 ≤ 4294967295) → (0 ≤ v5 ∧ v5 ≤ 4294967295) → (0 ≤ v6 ∧ v6 ≤ 4294967295) → (0 ≤ v7 ∧ v7 ≤ 4294967295) → (0 ≤ v8 ∧ v8 ≤ 4294967295) → (0 ≤ v9 ∧ v9 ≤ 4294967295) → (0 ≤ v10 ∧ v10 ≤ 4294967295) → (0 ≤ v11 ∧ v11 ≤ 4294967295) → pre 39 [v0, v1, v2, v3, v4, v5, v6, v7, v8, v9, v10, v11] → p39 T I M pre (fun ys => ys = T.fn 39 [v0, v1, v2, v3, v4, v5, v6, v7, v8, v9, v10, v11]) v0 v1 v2 v3 v4 v5 v6 v7 v8 v9 v10 v11) : CT Try.prog T.fns (pres pre) 39 s39 :=
  T.ctq (F := ⟨c39, [(7, ⟨0, [9, 24], [3], [25, 26, 10, 11, 27, 28, 29, 30, 12, 31, 32, 33, 34, 35, 36, 37, 38, 39, 40, 41, 42, 43, 44, 45, 46, 47, 48, 13, 49, 50, 51, 52, 53, 54, 55, 56, 57, 58, 59, 60, 61, 62, 63, 64, 65, 66, 67, 68, 69, 70], [⟨0, 1⟩, ⟨0, 6⟩, ⟨0, 4294967295⟩, ⟨0, 4294967295⟩, ⟨0, 4294967295⟩, ⟨0, 4294967295⟩, ⟨0, 4294967295⟩, ⟨0, 4294967295⟩]⟩), (11, ⟨1, [11, 28], [3], [29, 30, 12, 31, 32, 33, 34, 35, 36, 37, 38, 39, 40, 41, 42, 43, 44, 45, 46, 47, 48, 13, 49, 50, 51, 52, 53, 54, 55, 56, 57], [⟨0, 4294967295⟩, ⟨0, 6⟩, ⟨0, 4294967295⟩, ⟨0, 4294967295⟩, ⟨0, 4294967295⟩, ⟨0, 4294967295⟩, ⟨0, 4294967295⟩, ⟨0, 4294967295⟩]⟩)]⟩) (fuel := 250) v39 Try.checked.mixed hs ht hg hC Try.func39 I M (fun _ h _ => h) fun xs hx hp => by
    match xs, hx, hp with
    | [v0, v1, v2, v3, v4, v5, v6, v7, v8, v9, v10, v11], hx, hp => rw [q39]; exact h v0 v1 v2 v3 v4 v5 v6 v7 v8 v9 v10 v11 hx.1 hx.2.1 hx.2.2.1 hx.2.2.2.1 hx.2.2.2.2.1 hx.2.2.2.2.2.1 hx.2.2.2.2.2.2.1 hx.2.2.2.2.2.2.2.1 hx.2.2.2.2.2.2.2.2.1 hx.2.2.2.2.2.2.2.2.2.1 hx.2.2.2.2.2.2.2.2.2.2.1 hx.2.2.2.2.2.2.2.2.2.2.2.1 hp

/-- loop.example/g01242/impl.MulWides -/
noncomputable def c15 : Cfg := ⟨Try.prog, [(38, s38), (39, s39), (40, s40)]⟩
def iv15 : List Iv := [⟨0, 1⟩, ⟨0, 4294967295⟩, ⟨0, 4294967295⟩, ⟨0, 4294967295⟩, ⟨0, 4294967295⟩, ⟨0, 4294967295⟩, ⟨0, 4294967295⟩, ⟨0, 1⟩, ⟨0, 4294967295⟩, ⟨0, 4294967295⟩, ⟨0, 4294967295⟩, ⟨0, 4294967295⟩, ⟨0, 4294967295⟩, ⟨0, 4294967295⟩]
def t15 : VC :=
 (.call 38 (.e (.var 0) (.e (.var 1) (.e (.var 2) (.e (.var 3) (.e (.var 4) (.e (.var 5) (.e (.var 6) .nil))))))) 1
 (.ite (.eq (.var 14) (.lit 1))
  (.call 38 (.e (.var 7) (.e (.var 8) (.e (.var 9) (.e (.var 10) (.e (.var 11) (.e (.var 12) (.e (.var 13) .nil))))))) 1
  (.ite (.not (.eq (.var 15) (.lit 1)))
   (.fin (.e (.lit 0) (.e (.lit 0) (.e (.lit 0) (.e (.lit 0) (.e (.lit 0) (.e (.lit 0) (.e (.lit 0) (.e (.lit 1) .nil)))))))))
   (.call 39 (.e (.var 1) (.e (.var 2) (.e (.var 3) (.e (.var 4) (.e (.var 5) (.e (.var 6) (.e (.var 8) (.e (.var 9) (.e (.var 10) (.e (.var 11) (.e (.var 12) (.e (.var 13) .nil)))))))))))) 7
   (.call 40 (.e (.ite (.not (.beq (.eq (.var 0) (.lit 1)) (.eq (.var 7) (.lit 1)))) (.lit 1) (.lit 0)) (.e (.var 16) (.e (.var 17) (.e (.var 18) (.e (.var 19) (.e (.var 20) (.e (.var 21) (.e (.var 22) .nil)))))))) 8
   (.fin (.e (.var 23) (.e (.var 24) (.e (.var 25) (.e (.var 26) (.e (.var 27) (.e (.var 28) (.e (.var 29) (.e (.var 30) .nil)))))))))))))
  (.fin (.e (.lit 0) (.e (.lit 0) (.e (.lit 0) (.e (.lit 0) (.e (.lit 0) (.e (.lit 0) (.e (.lit 0) (.e (.lit 1) .nil)))))))))))
theorem v15 : vcOfI ⟨c15, []⟩ iv15 250 Try.f15 s15 = t15 := by kernel_rfl
set_option linter.unusedVariables false in
def p15 (T : Tab) (I : Nat → List Int → List Int → Prop) (M : Nat → List Int → List Int → Nat) (pre : Nat → List Int → Prop) (post : List Int → Prop) (v0 v1 v2 v3 v4 v5 v6 v7 v8 v9 v10 v11 v12 v13 : Int) : Prop :=
 ∀ v14 : Int, [v14] = T.out 38 1 [v0, v1, v2, v3, v4, v5, v6] →
 ((decide ((v14 : Int) = 1) = true →
  ∀ v15 : Int, [v15] = T.out 38 1 [v7, v8, v9, v10, v11, v12, v13] →
  (((!decide ((v15 : Int) = 1)) = true →
   post [0, 0, 0, 0, 0, 0, 0, 1]) ∧ ((!decide ((v15 : Int) = 1)) = false →
   ∀ v16 v17 v18 v19 v20 v21 v22 : Int, [v16, v17, v18, v19, v20, v21, v22] = T.out 39 7 [v1, v2, v3, v4, v5, v6, v8, v9, v10, v11, v12, v13] →
   ∀ v23 v24 v25 v26 v27 v28 v29 v30 : Int, [v23, v24, v25, v26, v27, v28, v29, v30] = T.out 40 8 [(if (!(decide ((v0 : Int) = 1) == decide ((v7 : Int) = 1))) = true then 1 else 0), v16, v17, v18, v19, v20, v21, v22] →
   post [v23, v24, v25, v26, v27, v28, v29, v30]))) ∧ (decide ((v14 : Int) = 1) = false →
  post [0, 0, 0, 0, 0, 0, 0, 1]))
theorem q15 (T : Tab) (I : Nat → List Int → List Int → Prop) (M : Nat → List Int → List Int → Nat) (pre : Nat → List Int → Prop) (post : List Int → Prop) (v0 v1 v2 v3 v4 v5 v6 v7 v8 v9 v10 v11 v12 v13 : Int) : t15.plain T (presL pre I M) post ⟨[v0, v1, v2, v3, v4, v5, v6, v7, v8, v9, v10, v11, v12, v13], []⟩ = p15 T I M pre post v0 v1 v2 v3 v4 v5 v6 v7 v8 v9 v10 v11 v12 v13 := by kernel_rfl
theorem k15 (T : Tab) (I : Nat → List Int → List Int → Prop) (M : Nat → List Int → List Int → Nat) (pre : Nat → List Int → Prop) (hs : SubSig T c15.sigs) (ht : Tot pre c15.sigs) (hg : T.sig 15 = some s15) (hC : CtAll Try.prog T.fns (pres pre) c15.sigs)
    (h : ∀ (v0 v1 v2 v3 v4 v5 v6 v7 v8 v9 v10 v11 v12 v13 : Int), (0 ≤ v0 ∧ v0 ≤ 1) → (0 ≤ v1 ∧ v1 ≤ 4294967295) → (0 ≤ v2 ∧ v2 ≤ 4294967295) → (0 ≤ v3 ∧ v3 ≤ 4294967295) → (0 ≤ v4 ∧ v4 ≤ 4294967295) → (0 ≤ v5 ∧ v5 ≤ 4294967295) → (0 ≤ v6 ∧ v6 ≤ 4294967295) → (0 ≤ v7 ∧ v7 ≤ 1) → (0 ≤ v8 ∧ v8 ≤ 4294967295) → (0 ≤ v9 ∧ v9 ≤ 4294967295) → (0 ≤ v10 ∧ v10 ≤ 4294967295) → (0 ≤ v11 ∧ v11 ≤ 4294967295) → (0 ≤ v12 ∧ v12 ≤ 4294967295) → (0 ≤ v13 ∧ v13 ≤ 4294967295) → pre 15 [v0, v1, v2, v3, v4, v5, v6, v7, v8, v9, v10, v11, v12, v13] → p15 T I M pre (fun ys => ys = T.fn 15 [v0, v1, v2, v3, v4, v5, v6, v7, v8, v9, v10, v11, v12, v13]) v0 v1 v2 v3 v4 v5 v6 v7 v8 v9 v10 v11 v12 v13) : CT Try.prog T.fns (pres pre) 15 s15 :=
  T.ctq (F := ⟨c15, []⟩) (fuel := 250) v15 Try.checked.mixed hs ht hg hC Try.func15 I M (fun _ h _ => h) fun xs hx hp => by
    match xs, hx, hp with
    | [v0, v1, v2, v3, v4, v5, v6, v7, v8, v9, v10, v11, v12, v13], hx, hp => rw [q15]; exact h v0 v1 v2 v3 v4 v5 v6 v7 v8 v9 v10 v11 v12 v13 hx.1 hx.2.1 hx.2.2.1 hx.2.2.2.1 hx.2.2.2.2.1 hx.2.2.2.2.2.1 hx.2.2.2.2.2.2.1 hx.2.2.2.2.2.2.2.1 hx.2.2.2.2.2.2.2.2.1 hx.2.2.2.2.2.2.2.2.2.1 hx.2.2.2.2.2.2.2.2.2.2.1 hx.2.2.2.2.2.2.2.2.2.2.2.1 hx.2.2.2.2.2.2.2.2.2.2.2.2.1 hx.2.2.2.2.2.2.2.2.2.2.2.2.2.1 hp

/-- loop.example/g01242/impl.ShiftUp -/
noncomputable def c18 : Cfg := ⟨Try.prog, [(38, s38), (44, s44), (45, s45), (46, s46), (40, s40)]⟩
def iv18 : List Iv := [⟨0, 1⟩, ⟨0, 4294967295⟩, ⟨0, 4294967295⟩, ⟨0, 4294967295⟩, ⟨0, 4294967295⟩, ⟨0, 4294967295⟩, ⟨0, 4294967295⟩, ⟨(-9223372036854775808), 9223372036854775807⟩]
def t18 : VC :=
 (.call 38 (.e (.var 0) (.e (.var 1) (.e (.var 2) (.e (.var 3) (.e (.var 4) (.e (.var 5) (.e (.var 6) .nil))))))) 1
 (.ite (.not (.eq (.var 8) (.lit 1)))
  (.fin (.e (.lit 0) (.e (.lit 0) (.e (.lit 0) (.e (.lit 0) (.e (.lit 0) (.e (.lit 0) (.e (.lit 0) (.e (.lit 1) .nil)))))))))
  (.ite (.le (.lit 0) (.var 7))
   (.ite (.lt (.lit 191) (.var 7))
    (.fin (.e (.lit 0) (.e (.lit 0) (.e (.lit 0) (.e (.lit 0) (.e (.lit 0) (.e (.lit 0) (.e (.lit 0) (.e (.lit 2) .nil)))))))))
    (.call 44 (.e (.var 1) (.e (.var 2) (.e (.var 3) (.e (.var 4) (.e (.var 5) (.e (.var 6) .nil)))))) 1
    (.ite (.not (.eq (.var 9) (.lit 1)))
     (.call 45 (.e (.var 1) (.e (.var 2) (.e (.var 3) (.e (.var 4) (.e (.var 5) (.e (.var 6) .nil)))))) 1
     (.bind (.ite (.lt (.lit 192) (.add (.var 10) (.var 7))) (.lit 1) (.lit 0))
     (.need [(.pre 46 (.e (.var 1) (.e (.var 2) (.e (.var 3) (.e (.var 4) (.e (.var 5) (.e (.var 6) (.e (.var 7) .nil))))))))]
     (.call 46 (.e (.var 1) (.e (.var 2) (.e (.var 3) (.e (.var 4) (.e (.var 5) (.e (.var 6) (.e (.var 7) .nil))))))) 6
     (.call 40 (.e (.var 0) (.e (.var 12) (.e (.var 13) (.e (.var 14) (.e (.var 15) (.e (.var 16) (.e (.var 17) (.e (.var 11) .nil)))))))) 8
     (.fin (.e (.var 18) (.e (.var 19) (.e (.var 20) (.e (.var 21) (.e (.var 22) (.e (.var 23) (.e (.var 24) (.e (.var 25) .nil))))))))))))))
     (.need [(.pre 46 (.e (.var 1) (.e (.var 2) (.e (.var 3) (.e (.var 4) (.e (.var 5) (.e (.var 6) (.e (.var 7) .nil))))))))]
     (.call 46 (.e (.var 1) (.e (.var 2) (.e (.var 3) (.e (.var 4) (.e (.var 5) (.e (.var 6) (.e (.var 7) .nil))))))) 6
     (.call 40 (.e (.var 0) (.e (.var 10) (.e (.var 11) (.e (.var 12) (.e (.var 13) (.e (.var 14) (.e (.var 15) (.e (.lit 0) .nil)))))))) 8
     (.fin (.e (.var 16) (.e (.var 17) (.e (.var 18) (.e (.var 19) (.e (.var 20) (.e (.var 21) (.e (.var 22) (.e (.var 23) .nil)))))))))))))))
   (.fin (.e (.lit 0) (.e (.lit 0) (.e (.lit 0) (.e (.lit 0) (.e (.lit 0) (.e (.lit 0) (.e (.lit 0) (.e (.lit 2) .nil))))))))))))
theorem v18 : vcOfI ⟨c18, []⟩ iv18 250 Try.f18 s18 = t18 := by kernel_rfl
set_option linter.unusedVariables false in
def p18 (T : Tab) (I : Nat → List Int → List Int → Prop) (M : Nat → List Int → List Int → Nat) (pre : Nat → List Int → Prop) (post : List Int → Prop) (v0 v1 v2 v3 v4 v5 v6 v7 : Int) : Prop :=
 ∀ v8 : Int, [v8] = T.out 38 1 [v0, v1, v2, v3, v4, v5, v6] →
 (((!decide ((v8 : Int) = 1)) = true →
  post [0, 0, 0, 0, 0, 0, 0, 1]) ∧ ((!decide ((v8 : Int) = 1)) = false →
  ((decide ((0 : Int) ≤ v7) = true →
   ((decide ((191 : Int) < v7) = true →
    post [0, 0, 0, 0, 0, 0, 0, 2]) ∧ (decide ((191 : Int) < v7) = false →
    ∀ v9 : Int, [v9] = T.out 44 1 [v1, v2, v3, v4, v5, v6] →
    (((!decide ((v9 : Int) = 1)) = true →
     ∀ v10 : Int, [v10] = T.out 45 1 [v1, v2, v3, v4, v5, v6] →
     ∀ v11 : Int, v11 = (if decide ((192 : Int) < (v10 + v7)) = true then 1 else 0) →
     ((pre 46 [v1, v2, v3, v4, v5, v6, v7]) ∧ ((pre 46 [v1, v2, v3, v4, v5, v6, v7]) →
     ∀ v12 v13 v14 v15 v16 v17 : Int, [v12, v13, v14, v15, v16, v17] = T.out 46 6 [v1, v2, v3, v4, v5, v6, v7] →
     ∀ v18 v19 v20 v21 v22 v23 v24 v25 : Int, [v18, v19, v20, v21, v22, v23, v24, v25] = T.out 40 8 [v0, v12, v13, v14, v15, v16, v17, v11] →
     post [v18, v19, v20, v21, v22, v23, v24, v25]))) ∧ ((!decide ((v9 : Int) = 1)) = false →
     ((pre 46 [v1, v2, v3, v4, v5, v6, v7]) ∧ ((pre 46 [v1, v2, v3, v4, v5, v6, v7]) →
     ∀ v10 v11 v12 v13 v14 v15 : Int, [v10, v11, v12, v13, v14, v15] = T.out 46 6 [v1, v2, v3, v4, v5, v6, v7] →
     ∀ v16 v17 v18 v19 v20 v21 v22 v23 : Int, [v16, v17, v18, v19, v20, v21, v22, v23] = T.out 40 8 [v0, v10, v11, v12, v13, v14, v15, 0] →
     post [v16, v17, v18, v19, v20, v21, v22, v23]))))))) ∧ (decide ((0 : Int) ≤ v7) = false →
   post [0, 0, 0, 0, 0, 0, 0, 2]))))
theorem q18 (T : Tab) (I : Nat → List Int → List Int → Prop) (M : Nat → List Int → List Int → Nat) (pre : Nat → List Int → Prop) (post : List Int → Prop) (v0 v1 v2 v3 v4 v5 v6 v7 : Int) : t18.plain T (presL pre I M) post ⟨[v0, v1, v2, v3, v4, v5, v6, v7], []⟩ = p18 T I M pre post v0 v1 v2 v3 v4 v5 v6 v7 := by kernel_rfl
theorem k18 (T : Tab) (I : Nat → List Int → List Int → Prop) (M : Nat → List Int → List Int → Nat) (pre : Nat → List Int → Prop) (hs : SubSig T c18.sigs) (ht : Tot pre c18.sigs) (hg : T.sig 18 = some s18) (hC : CtAll Try.prog T.fns (pres pre) c18.sigs)
    (h : ∀ (v0 v1 v2 v3 v4 v5 v6 v7 : Int), (0 ≤ v0 ∧ v0 ≤ 1) → (0 ≤ v1 ∧ v1 ≤ 4294967295) → (0 ≤ v2 ∧ v2 ≤ 4294967295) → (0 ≤ v3 ∧ v3 ≤ 4294967295) → (0 ≤ v4 ∧ v4 ≤ 4294967295) → (0 ≤ v5 ∧ v5 ≤ 4294967295) → (0 ≤ v6 ∧ v6 ≤ 4294967295) → ((-9223372036854775808) ≤ v7 ∧ v7 ≤ 9223372036854775807) → pre 18 [v0, v1, v2, v3, v4, v5, v6, v7] → p18 T I M pre (fun ys => ys = T.fn 18 [v0, v1, v2, v3, v4, v5, v6, v7]) v0 v1 v2 v3 v4 v5 v6 v7) : CT Try.prog T.fns (pres pre) 18 s18 :=
  T.ctq (F := ⟨c18, []⟩) (fuel := 250) v18 Try.checked.mixed hs ht hg hC Try.func18 I M (fun _ h _ => h) fun xs hx hp => by
    match xs, hx, hp with
    | [v0, v1, v2, v3, v4, v5, v6, v7], hx, hp => rw [q18]; exact h v0 v1 v2 v3 v4 v5 v6 v7 hx.1 hx.2.1 hx.2.2.1 hx.2.2.2.1 hx.2.2.2.2.1 hx.2.2.2.2.2.1 hx.2.2.2.2.2.2.1 hx.2.2.2.2.2.2.2.1 hp

/-- loop.example/g01242/impl.ShiftNear -/
noncomputable def c20 : Cfg := ⟨Try.prog, [(38, s38), (48, s48), (46, s46), (49, s49), (50, s50), (51, s51), (52, s52)]⟩
def iv20 : List Iv := [⟨0, 1⟩, ⟨0, 4294967295⟩, ⟨0, 4294967295⟩, ⟨0, 4294967295⟩, ⟨0, 4294967295⟩, ⟨0, 4294967295⟩, ⟨0, 4294967295⟩, ⟨(-9223372036854775808), 9223372036854775807⟩]
def t20 : VC :=
 (.call 38 (.e (.var 0) (.e (.var 1) (.e (.var 2) (.e (.var 3) (.e (.var 4) (.e (.var 5) (.e (.var 6) .nil))))))) 1
 (.ite (.not (.eq (.var 8) (.lit 1)))
  (.fin (.e (.lit 0) (.e (.lit 0) (.e (.lit 0) (.e (.lit 0) (.e (.lit 0) (.e (.lit 0) (.e (.lit 0) (.e (.lit 1) .nil)))))))))
  (.ite (.le (.lit 0) (.var 7))
   (.ite (.lt (.lit 191) (.var 7))
    (.fin (.e (.lit 0) (.e (.lit 0) (.e (.lit 0) (.e (.lit 0) (.e (.lit 0) (.e (.lit 0) (.e (.lit 0) (.e (.lit 2) .nil)))))))))
    (.ite (.eq (.var 7) (.lit 0))
     (.fin (.e (.var 0) (.e (.var 1) (.e (.var 2) (.e (.var 3) (.e (.var 4) (.e (.var 5) (.e (.var 6) (.e (.lit 0) .nil)))))))))
     (.need [(.pre 48 (.e (.var 1) (.e (.var 2) (.e (.var 3) (.e (.var 4) (.e (.var 5) (.e (.var 6) (.e (.var 7) .nil))))))))]
     (.call 48 (.e (.var 1) (.e (.var 2) (.e (.var 3) (.e (.var 4) (.e (.var 5) (.e (.var 6) (.e (.var 7) .nil))))))) 6
     (.need [(.pre 46 (.e (.var 9) (.e (.var 10) (.e (.var 11) (.e (.var 12) (.e (.var 13) (.e (.var 14) (.e (.var 7) .nil))))))))]
     (.call 46 (.e (.var 9) (.e (.var 10) (.e (.var 11) (.e (.var 12) (.e (.var 13) (.e (.var 14) (.e (.var 7) .nil))))))) 6
     (.call 49 (.e (.var 1) (.e (.var 2) (.e (.var 3) (.e (.var 4) (.e (.var 5) (.e (.var 6) (.e (.var 15) (.e (.var 16) (.e (.var 17) (.e (.var 18) (.e (.var 19) (.e (.var 20) .nil)))))))))))) 6
     (.need [(.pre 46 (.e (.lit 1) (.e (.lit 0) (.e (.lit 0) (.e (.lit 0) (.e (.lit 0) (.e (.lit 0) (.e (.sub (.var 7) (.lit 1)) .nil))))))))]
     (.call 46 (.e (.lit 1) (.e (.lit 0) (.e (.lit 0) (.e (.lit 0) (.e (.lit 0) (.e (.lit 0) (.e (.sub (.var 7) (.lit 1)) .nil))))))) 6
     (.call 50 (.e (.var 21) (.e (.var 22) (.e (.var 23) (.e (.var 24) (.e (.var 25) (.e (.var 26) (.e (.var 27) (.e (.var 28) (.e (.var 29) (.e (.var 30) (.e (.var 31) (.e (.var 32) .nil)))))))))))) 1
     (.ite (.le (.var 33) (.lit 0))
      (.ite (.eq (.var 33) (.lit 0))
       (.ite (.not (.eq (.var 0) (.lit 1)))
        (.call 51 (.e (.var 9) (.e (.var 10) (.e (.var 11) (.e (.var 12) (.e (.var 13) (.e (.var 14) .nil)))))) 6
        (.call 52 (.e (.var 0) (.e (.var 34) (.e (.var 35) (.e (.var 36) (.e (.var 37) (.e (.var 38) (.e (.var 39) .nil))))))) 7
        (.fin (.e (.var 40) (.e (.var 41) (.e (.var 42) (.e (.var 43) (.e (.var 44) (.e (.var 45) (.e (.var 46) (.e (.lit 0) .nil)))))))))))
        (.call 52 (.e (.var 0) (.e (.var 9) (.e (.var 10) (.e (.var 11) (.e (.var 12) (.e (.var 13) (.e (.var 14) .nil))))))) 7
        (.fin (.e (.var 34) (.e (.var 35) (.e (.var 36) (.e (.var 37) (.e (.var 38) (.e (.var 39) (.e (.var 40) (.e (.lit 0) .nil)))))))))))
       (.call 52 (.e (.var 0) (.e (.var 9) (.e (.var 10) (.e (.var 11) (.e (.var 12) (.e (.var 13) (.e (.var 14) .nil))))))) 7
       (.fin (.e (.var 34) (.e (.var 35) (.e (.var 36) (.e (.var 37) (.e (.var 38) (.e (.var 39) (.e (.var 40) (.e (.lit 0) .nil)))))))))))
      (.call 51 (.e (.var 9) (.e (.var 10) (.e (.var 11) (.e (.var 12) (.e (.var 13) (.e (.var 14) .nil)))))) 6
      (.call 52 (.e (.var 0) (.e (.var 34) (.e (.var 35) (.e (.var 36) (.e (.var 37) (.e (.var 38) (.e (.var 39) .nil))))))) 7
      (.fin (.e (.var 40) (.e (.var 41) (.e (.var 42) (.e (.var 43) (.e (.var 44) (.e (.var 45) (.e (.var 46) (.e (.lit 0) .nil))))))))))))))))))))))
   (.fin (.e (.lit 0) (.e (.lit 0) (.e (.lit 0) (.e (.lit 0) (.e (.lit 0) (.e (.lit 0) (.e (.lit 0) (.e (.lit 2) .nil))))))))))))
theorem v20 : vcOfI ⟨c20, []⟩ iv20 250 Try.f20 s20 = t20 := by kernel_rfl
set_option linter.unusedVariables false in
def p20 (T : Tab) (I : Nat → List Int → List Int → Prop) (M : Nat → List Int → List Int → Nat) (pre : Nat → List Int → Prop) (post : List Int → Prop) (v0 v1 v2 v3 v4 v5 v6 v7 : Int) : Prop :=
 ∀ v8 : Int, [v8] = T.out 38 1 [v0, v1, v2, v3, v4, v5, v6] →
 (((!decide ((v8 : Int) = 1)) = true →
  post [0, 0, 0, 0, 0, 0, 0, 1]) ∧ ((!decide ((v8 : Int) = 1)) = false →
  ((decide ((0 : Int) ≤ v7) = true →
   ((decide ((191 : Int) < v7) = true →
    post [0, 0, 0, 0, 0, 0, 0, 2]) ∧ (decide ((191 : Int) < v7) = false →
    ((decide ((v7 : Int) = 0) = true →
     post [v0, v1, v2, v3, v4, v5, v6, 0]) ∧ (decide ((v7 : Int) = 0) = false →
     ((pre 48 [v1, v2, v3, v4, v5, v6, v7]) ∧ ((pre 48 [v1, v2, v3, v4, v5, v6, v7]) →
     ∀ v9 v10 v11 v12 v13 v14 : Int, [v9, v10, v11, v12, v13, v14] = T.out 48 6 [v1, v2, v3, v4, v5, v6, v7] →
     ((pre 46 [v9, v10, v11, v12, v13, v14, v7]) ∧ ((pre 46 [v9, v10, v11, v12, v13, v14, v7]) →
     ∀ v15 v16 v17 v18 v19 v20 : Int, [v15, v16, v17, v18, v19, v20] = T.out 46 6 [v9, v10, v11, v12, v13, v14, v7] →
     ∀ v21 v22 v23 v24 v25 v26 : Int, [v21, v22, v23, v24, v25, v26] = T.out 49 6 [v1, v2, v3, v4, v5, v6, v15, v16, v17, v18, v19, v20] →
     ((pre 46 [1, 0, 0, 0, 0, 0, (v7 - 1)]) ∧ ((pre 46 [1, 0, 0, 0, 0, 0, (v7 - 1)]) →
     ∀ v27 v28 v29 v30 v31 v32 : Int, [v27, v28, v29, v30, v31, v32] = T.out 46 6 [1, 0, 0, 0, 0, 0, (v7 - 1)] →
     ∀ v33 : Int, [v33] = T.out 50 1 [v21, v22, v23, v24, v25, v26, v27, v28, v29, v30, v31, v32] →
     ((decide ((v33 : Int) ≤ 0) = true →
      ((decide ((v33 : Int) = 0) = true →
       (((!decide ((v0 : Int) = 1)) = true →
        ∀ v34 v35 v36 v37 v38 v39 : Int, [v34, v35, v36, v37, v38, v39] = T.out 51 6 [v9, v10, v11, v12, v13, v14] →
        ∀ v40 v41 v42 v43 v44 v45 v46 : Int, [v40, v41, v42, v43, v44, v45, v46] = T.out 52 7 [v0, v34, v35, v36, v37, v38, v39] →
        post [v40, v41, v42, v43, v44, v45, v46, 0]) ∧ ((!decide ((v0 : Int) = 1)) = false →
        ∀ v34 v35 v36 v37 v38 v39 v40 : Int, [v34, v35, v36, v37, v38, v39, v40] = T.out 52 7 [v0, v9, v10, v11, v12, v13, v14] →
        post [v34, v35, v36, v37, v38, v39, v40, 0]))) ∧ (decide ((v33 : Int) = 0) = false →
       ∀ v34 v35 v36 v37 v38 v39 v40 : Int, [v34, v35, v36, v37, v38, v39, v40] = T.out 52 7 [v0, v9, v10, v11, v12, v13, v14] →
       post [v34, v35, v36, v37, v38, v39, v40, 0]))) ∧ (decide ((v33 : Int) ≤ 0) = false →
      ∀ v34 v35 v36 v37 v38 v39 : Int, [v34, v35, v36, v37, v38, v39] = T.out 51 6 [v9, v10, v11, v12, v13, v14] →
      ∀ v40 v41 v42 v43 v44 v45 v46 : Int, [v40, v41, v42, v43, v44, v45, v46] = T.out 52 7 [v0, v34, v35, v36, v37, v38, v39] →
      post [v40, v41, v42, v43, v44, v45, v46, 0]))))))))))))) ∧ (decide ((0 : Int) ≤ v7) = false →
   post [0, 0, 0, 0, 0, 0, 0, 2]))))
theorem q20 (T : Tab) (I : Nat → List Int → List Int → Prop) (M : Nat → List Int → List Int → Nat) (pre : Nat → List Int → Prop) (post : List Int → Prop) (v0 v1 v2 v3 v4 v5 v6 v7 : Int) : t20.plain T (presL pre I M) post ⟨[v0, v1, v2, v3, v4, v5, v6, v7], []⟩ = p20 T I M pre post v0 v1 v2 v3 v4 v5 v6 v7 := by kernel_rfl
theorem k20 (T : Tab) (I : Nat → List Int → List Int → Prop) (M : Nat → List Int → List Int → Nat) (pre : Nat → List Int → Prop) (hs : SubSig T c20.sigs) (ht : Tot pre c20.sigs) (hg : T.sig 20 = some s20) (hC : CtAll Try.prog T.fns (pres pre) c20.sigs)
    (h : ∀ (v0 v1 v2 v3 v4 v5 v6 v7 : Int), (0 ≤ v0 ∧ v0 ≤ 1) → (0 ≤ v1 ∧ v1 ≤ 4294967295) → (0 ≤ v2 ∧ v2 ≤ 4294967295) → (0 ≤ v3 ∧ v3 ≤ 4294967295) → (0 ≤ v4 ∧ v4 ≤ 4294967295) → (0 ≤ v5 ∧ v5 ≤ 4294967295) → (0 ≤ v6 ∧ v6 ≤ 4294967295) → ((-9223372036854775808) ≤ v7 ∧ v7 ≤ 9223372036854775807) → pre 20 [v0, v1, v2, v3, v4, v5, v6, v7] → p20 T I M pre (fun ys => ys = T.fn 20 [v0, v1, v2, v3, v4, v5, v6, v7]) v0 v1 v2 v3 v4 v5 v6 v7) : CT Try.prog T.fns (pres pre) 20 s20 :=
  T.ctq (F := ⟨c20, []⟩) (fuel := 250) v20 Try.checked.mixed hs ht hg hC Try.func20 I M (fun _ h _ => h) fun xs hx hp => by
    match xs, hx, hp with
    | [v0, v1, v2, v3, v4, v5, v6, v7], hx, hp => rw [q20]; exact h v0 v1 v2 v3 v4 v5 v6 v7 hx.1 hx.2.1 hx.2.2.1 hx.2.2.2.1 hx.2.2.2.2.1 hx.2.2.2.2.2.1 hx.2.2.2.2.2.2.1 hx.2.2.2.2.2.2.2.1 hp

/-- loop.example/g01242/impl.PowerWide -/
noncomputable def c28 : Cfg := ⟨Try.prog, [(38, s38), (58, s58), (15, s15)]⟩
def iv28 : List Iv := [⟨0, 1⟩, ⟨0, 4294967295⟩, ⟨0, 4294967295⟩, ⟨0, 4294967295⟩, ⟨0, 4294967295⟩, ⟨0, 4294967295⟩, ⟨0, 4294967295⟩, ⟨(-9223372036854775808), 9223372036854775807⟩]
def t28 : VC :=
 (.call 38 (.e (.var 0) (.e (.var 1) (.e (.var 2) (.e (.var 3) (.e (.var 4) (.e (.var 5) (.e (.var 6) .nil))))))) 1
 (.ite (.not (.eq (.var 8) (.lit 1)))
  (.fin (.e (.lit 0) (.e (.lit 0) (.e (.lit 0) (.e (.lit 0) (.e (.lit 0) (.e (.lit 0) (.e (.lit 0) (.e (.lit 1) .nil)))))))))
  (.ite (.le (.lit 0) (.var 7))
   (.ite (.lt (.lit 191) (.var 7))
    (.fin (.e (.lit 0) (.e (.lit 0) (.e (.lit 0) (.e (.lit 0) (.e (.lit 0) (.e (.lit 0) (.e (.lit 0) (.e (.lit 2) .nil)))))))))
    (.call 58 (.e (.lit 1) .nil) 7
    (.loop 0 [(.lit 0), (.ite (.eq (.var 9) (.lit 1)) (.lit 1) (.lit 0)), (.var 10), (.var 11), (.var 12), (.var 13), (.var 14), (.var 15)] [⟨0, 191⟩, ⟨0, 1⟩, ⟨0, 4294967295⟩, ⟨0, 4294967295⟩, ⟨0, 4294967295⟩, ⟨0, 4294967295⟩, ⟨0, 4294967295⟩, ⟨0, 4294967295⟩]
     (.ite (.lt (.var 16) (.var 7))
      (.call 15 (.e (.var 17) (.e (.var 18) (.e (.var 19) (.e (.var 20) (.e (.var 21) (.e (.var 22) (.e (.var 23) (.e (.var 0) (.e (.var 1) (.e (.var 2) (.e (.var 3) (.e (.var 4) (.e (.var 5) (.e (.var 6) .nil)))))))))))))) 8
      (.ite (.not (.eq (.var 31) (.lit 0)))
       (.fin (.e (.lit 0) (.e (.lit 0) (.e (.lit 0) (.e (.lit 0) (.e (.lit 0) (.e (.lit 0) (.e (.lit 0) (.e (.var 31) .nil)))))))))
       (.again 0 16 [⟨0, 191⟩, ⟨0, 1⟩, ⟨0, 4294967295⟩, ⟨0, 4294967295⟩, ⟨0, 4294967295⟩, ⟨0, 4294967295⟩, ⟨0, 4294967295⟩, ⟨0, 4294967295⟩] [(.add (.var 16) (.lit 1)), (.ite (.eq (.var 24) (.lit 1)) (.lit 1) (.lit 0)), (.var 25), (.var 26), (.var 27), (.var 28), (.var 29), (.var 30)])))
      (.fin (.e (.var 17) (.e (.var 18) (.e (.var 19) (.e (.var 20) (.e (.var 21) (.e (.var 22) (.e (.var 23) (.e (.lit 0) .nil)))))))))))))
   (.fin (.e (.lit 0) (.e (.lit 0) (.e (.lit 0) (.e (.lit 0) (.e (.lit 0) (.e (.lit 0) (.e (.lit 0) (.e (.lit 2) .nil))))))))))))
theorem v28 : vcOfI ⟨c28, [(7, ⟨0, [22], [2], [23, 25, 26, 27, 24, 28, 29, 7, 8, 30, 31, 32, 33, 5, 34, 35], [⟨0, 191⟩, ⟨0, 1⟩, ⟨0, 4294967295⟩, ⟨0, 4294967295⟩, ⟨0, 4294967295⟩, ⟨0, 4294967295⟩, ⟨0, 4294967295⟩, ⟨0, 4294967295⟩]⟩)]⟩ iv28 250 Try.f28 s28 = t28 := by kernel_rfl
set_option linter.unusedVariables false in
def p28 (T : Tab) (I : Nat → List Int → List Int → Prop) (M : Nat → List Int → List Int → Nat) (pre : Nat → List Int → Prop) (post : List Int → Prop) (v0 v1 v2 v3 v4 v5 v6 v7 : Int) : Prop :=
 ∀ v8 : Int, [v8] = T.out 38 1 [v0, v1, v2, v3, v4, v5, v6] →
 (((!decide ((v8 : Int) = 1)) = true →
  post [0, 0, 0, 0, 0, 0, 0, 1]) ∧ ((!decide ((v8 : Int) = 1)) = false →
  ((decide ((0 : Int) ≤ v7) = true →
   ((decide ((191 : Int) < v7) = true →
    post [0, 0, 0, 0, 0, 0, 0, 2]) ∧ (decide ((191 : Int) < v7) = false →
    ∀ v9 v10 v11 v12 v13 v14 v15 : Int, [v9, v10, v11, v12, v13, v14, v15] = T.out 58 7 [1] →
    ((allHas [⟨0, 191⟩, ⟨0, 1⟩, ⟨0, 4294967295⟩, ⟨0, 4294967295⟩, ⟨0, 4294967295⟩, ⟨0, 4294967295⟩, ⟨0, 4294967295⟩, ⟨0, 4294967295⟩] [0, (if decide ((v9 : Int) = 1) = true then 1 else 0), v10, v11, v12, v13, v14, v15] ∧ I 0 [v0, v1, v2, v3, v4, v5, v6, v7, v8, v9, v10, v11, v12, v13, v14, v15] [0, (if decide ((v9 : Int) = 1) = true then 1 else 0), v10, v11, v12, v13, v14, v15]) ∧ ∀ v16 v17 v18 v19 v20 v21 v22 v23 : Int, allHas [⟨0, 191⟩, ⟨0, 1⟩, ⟨0, 4294967295⟩, ⟨0, 4294967295⟩, ⟨0, 4294967295⟩, ⟨0, 4294967295⟩, ⟨0, 4294967295⟩, ⟨0, 4294967295⟩] [v16, v17, v18, v19, v20, v21, v22, v23] → I 0 [v0, v1, v2, v3, v4, v5, v6, v7, v8, v9, v10, v11, v12, v13, v14, v15] [v16, v17, v18, v19, v20, v21, v22, v23] →
     ((decide ((v16 : Int) < v7) = true →
      ∀ v24 v25 v26 v27 v28 v29 v30 v31 : Int, [v24, v25, v26, v27, v28, v29, v30, v31] = T.out 15 8 [v17, v18, v19, v20, v21, v22, v23, v0, v1, v2, v3, v4, v5, v6] →
      (((!decide ((v31 : Int) = 0)) = true →
       post [0, 0, 0, 0, 0, 0, 0, v31]) ∧ ((!decide ((v31 : Int) = 0)) = false →
       (allHas [⟨0, 191⟩, ⟨0, 1⟩, ⟨0, 4294967295⟩, ⟨0, 4294967295⟩, ⟨0, 4294967295⟩, ⟨0, 4294967295⟩, ⟨0, 4294967295⟩, ⟨0, 4294967295⟩] [(v16 + 1), (if decide ((v24 : Int) = 1) = true then 1 else 0), v25, v26, v27, v28, v29, v30] ∧ I 0 [v0, v1, v2, v3, v4, v5, v6, v7, v8, v9, v10, v11, v12, v13, v14, v15] [(v16 + 1), (if decide ((v24 : Int) = 1) = true then 1 else 0), v25, v26, v27, v28, v29, v30] ∧ M 0 [v0, v1, v2, v3, v4, v5, v6, v7, v8, v9, v10, v11, v12, v13, v14, v15] [(v16 + 1), (if decide ((v24 : Int) = 1) = true then 1 else 0), v25, v26, v27, v28, v29, v30] < M 0 [v0, v1, v2, v3, v4, v5, v6, v7, v8, v9, v10, v11, v12, v13, v14, v15] [v16, v17, v18, v19, v20, v21, v22, v23])))) ∧ (decide ((v16 : Int) < v7) = false →
      post [v17, v18, v19, v20, v21, v22, v23, 0])))))) ∧ (decide ((0 : Int) ≤ v7) = false →
   post [0, 0, 0, 0, 0, 0, 0, 2]))))
theorem q28 (T : Tab) (I : Nat → List Int → List Int → Prop) (M : Nat → List Int → List Int → Nat) (pre : Nat → List Int → Prop) (post : List Int → Prop) (v0 v1 v2 v3 v4 v5 v6 v7 : Int) : t28.plain T (presL pre I M) post ⟨[v0, v1, v2, v3, v4, v5, v6, v7], []⟩ = p28 T I M pre post v0 v1 v2 v3 v4 v5 v6 v7 := by kernel_rfl
theorem k28 (T : Tab) (I : Nat → List Int → List Int → Prop) (M : Nat → List Int → List Int → Nat) (pre : Nat → List Int → Prop) (hs : SubSig T c28.sigs) (ht : Tot pre c28.sigs) (hg : T.sig 28 = some s28) (hC : CtAll Try.prog T.fns (pres pre) c28.sigs)
    (h : ∀ (v0 v1 v2 v3 v4 v5 v6 v7 : Int), (0 ≤ v0 ∧ v0 ≤ 1) → (0 ≤ v1 ∧ v1 ≤ 4294967295) → (0 ≤ v2 ∧ v2 ≤ 4294967295) → (0 ≤ v3 ∧ v3 ≤ 4294967295) → (0 ≤ v4 ∧ v4 ≤ 4294967295) → (0 ≤ v5 ∧ v5 ≤ 4294967295) → (0 ≤ v6 ∧ v6 ≤ 4294967295) → ((-9223372036854775808) ≤ v7 ∧ v7 ≤ 9223372036854775807) → pre 28 [v0, v1, v2, v3, v4, v5, v6, v7] → p28 T I M pre (fun ys => ys = T.fn 28 [v0, v1, v2, v3, v4, v5, v6, v7]) v0 v1 v2 v3 v4 v5 v6 v7) : CT Try.prog T.fns (pres pre) 28 s28 :=
  T.ctq (F := ⟨c28, [(7, ⟨0, [22], [2], [23, 25, 26, 27, 24, 28, 29, 7, 8, 30, 31, 32, 33, 5, 34, 35], [⟨0, 191⟩, ⟨0, 1⟩, ⟨0, 4294967295⟩, ⟨0, 4294967295⟩, ⟨0, 4294967295⟩, ⟨0, 4294967295⟩, ⟨0, 4294967295⟩, ⟨0, 4294967295⟩]⟩)]⟩) (fuel := 250) v28 Try.checked.mixed hs ht hg hC Try.func28 I M (fun _ h _ => h) fun xs hx hp => by
    match xs, hx, hp with
    | [v0, v1, v2, v3, v4, v5, v6, v7], hx, hp => rw [q28]; exact h v0 v1 v2 v3 v4 v5 v6 v7 hx.1 hx.2.1 hx.2.2.1 hx.2.2.2.1 hx.2.2.2.2.1 hx.2.2.2.2.2.1 hx.2.2.2.2.2.2.1 hx.2.2.2.2.2.2.2.1 hp

end Go.Proofs.Ytppbanmlifikpab.Sx
