/-
  What the symbolic executor asks of these functions, written out by a program of mine, and that it asks just this.
-/
import Derived.Test.YtppbanmlifikpabV2s
import Derived.Test.YtppbanmlifikpabChecked
import Derived.KernelRfl
namespace Go.Proofs.Ytppbanmlifikpab.Sx
open Go Go.RowKit
/-- loop.example/g01242/spec.l01Plus -/
noncomputable def c78 : Cfg := ⟨Try.prog, []⟩
def iv78 : List Iv := [⟨0, 4294967295⟩, ⟨0, 4294967295⟩, ⟨0, 4294967295⟩, ⟨0, 4294967295⟩, ⟨0, 4294967295⟩, ⟨0, 4294967295⟩, ⟨0, 4294967295⟩, ⟨0, 4294967295⟩, ⟨0, 4294967295⟩, ⟨0, 4294967295⟩, ⟨0, 4294967295⟩, ⟨0, 4294967295⟩]
def t78 : VC :=
 (.bind (.add (.var 0) (.var 6))
 (.bind (.wrap .u32 (.var 12))
 (.bind (.div (.var 12) (.lit 4294967296))
 (.bind (.add (.add (.var 1) (.var 7)) (.var 14))
 (.bind (.wrap .u32 (.var 15))
 (.bind (.div (.var 15) (.lit 4294967296))
 (.bind (.add (.add (.var 2) (.var 8)) (.var 17))
 (.bind (.wrap .u32 (.var 18))
 (.bind (.div (.var 18) (.lit 4294967296))
 (.bind (.add (.add (.var 3) (.var 9)) (.var 20))
 (.bind (.wrap .u32 (.var 21))
 (.bind (.div (.var 21) (.lit 4294967296))
 (.bind (.add (.add (.var 4) (.var 10)) (.var 23))
 (.bind (.wrap .u32 (.var 24))
 (.bind (.div (.var 24) (.lit 4294967296))
 (.bind (.add (.add (.var 5) (.var 11)) (.var 26))
 (.bind (.wrap .u32 (.var 27))
 (.bind (.div (.var 27) (.lit 4294967296))
 (.fin (.e (.var 13) (.e (.var 16) (.e (.var 19) (.e (.var 22) (.e (.var 25) (.e (.var 28) (.e (.ite (.eq (.var 29) (.lit 0)) (.lit 1) (.lit 0)) .nil))))))))))))))))))))))))))
theorem v78 : vcOfI ⟨c78, []⟩ iv78 250 Try.f78 s78 = t78 := by kernel_rfl
set_option linter.unusedVariables false in
def p78 (T : Tab) (I : Nat → List Int → List Int → Prop) (M : Nat → List Int → List Int → Nat) (pre : Nat → List Int → Prop) (post : List Int → Prop) (v0 v1 v2 v3 v4 v5 v6 v7 v8 v9 v10 v11 : Int) : Prop :=
 ∀ v12 : Int, v12 = (v0 + v6) →
 ∀ v13 : Int, v13 = (IntKind.wrap .u32 v12) →
 ∀ v14 : Int, v14 = (v12 / 4294967296) →
 ∀ v15 : Int, v15 = ((v1 + v7) + v14) →
 ∀ v16 : Int, v16 = (IntKind.wrap .u32 v15) →
 ∀ v17 : Int, v17 = (v15 / 4294967296) →
 ∀ v18 : Int, v18 = ((v2 + v8) + v17) →
 ∀ v19 : Int, v19 = (IntKind.wrap .u32 v18) →
 ∀ v20 : Int, v20 = (v18 / 4294967296) →
 ∀ v21 : Int, v21 = ((v3 + v9) + v20) →
 ∀ v22 : Int, v22 = (IntKind.wrap .u32 v21) →
 ∀ v23 : Int, v23 = (v21 / 4294967296) →
 ∀ v24 : Int, v24 = ((v4 + v10) + v23) →
 ∀ v25 : Int, v25 = (IntKind.wrap .u32 v24) →
 ∀ v26 : Int, v26 = (v24 / 4294967296) →
 ∀ v27 : Int, v27 = ((v5 + v11) + v26) →
 ∀ v28 : Int, v28 = (IntKind.wrap .u32 v27) →
 ∀ v29 : Int, v29 = (v27 / 4294967296) →
 post [v13, v16, v19, v22, v25, v28, (if decide ((v29 : Int) = 0) = true then 1 else 0)]
theorem q78 (T : Tab) (I : Nat → List Int → List Int → Prop) (M : Nat → List Int → List Int → Nat) (pre : Nat → List Int → Prop) (post : List Int → Prop) (v0 v1 v2 v3 v4 v5 v6 v7 v8 v9 v10 v11 : Int) : t78.plain T (presL pre I M) post ⟨[v0, v1, v2, v3, v4, v5, v6, v7, v8, v9, v10, v11], []⟩ = p78 T I M pre post v0 v1 v2 v3 v4 v5 v6 v7 v8 v9 v10 v11 := by kernel_rfl
theorem k78 (T : Tab) (I : Nat → List Int → List Int → Prop) (M : Nat → List Int → List Int → Nat) (pre : Nat → List Int → Prop) (hs : SubSig T c78.sigs) (ht : Tot pre c78.sigs) (hg : T.sig 78 = some s78) (hC : CtAll Try.prog T.fns (pres pre) c78.sigs)
    (h : ∀ (v0 v1 v2 v3 v4 v5 v6 v7 v8 v9 v10 v11 : Int), (0 ≤ v0 ∧ v0 ≤ 4294967295) → (0 ≤ v1 ∧ v1 ≤ 4294967295) → (0 ≤ v2 ∧ v2 ≤ 4294967295) → (0 ≤ v3 ∧ v3 ≤ 4294967295) → (0 ≤ v4 ∧ v4 ≤ 4294967295) → (0 ≤ v5 ∧ v5 ≤ 4294967295) → (0 ≤ v6 ∧ v6 ≤ 4294967295) → (0 ≤ v7 ∧ v7 ≤ 4294967295) → (0 ≤ v8 ∧ v8 ≤ 4294967295) → (0 ≤ v9 ∧ v9 ≤ 4294967295) → (0 ≤ v10 ∧ v10 ≤ 4294967295) → (0 ≤ v11 ∧ v11 ≤ 4294967295) → pre 78 [v0, v1, v2, v3, v4, v5, v6, v7, v8, v9, v10, v11] → p78 T I M pre (fun ys => ys = T.fn 78 [v0, v1, v2, v3, v4, v5, v6, v7, v8, v9, v10, v11]) v0 v1 v2 v3 v4 v5 v6 v7 v8 v9 v10 v11) : CT Try.prog T.fns (pres pre) 78 s78 :=
  T.ctq (F := ⟨c78, []⟩) (fuel := 250) v78 Try.checked.mixed hs ht hg hC Try.func78 I M (fun _ h _ => h) fun xs hx hp => by
    match xs, hx, hp with
    | [v0, v1, v2, v3, v4, v5, v6, v7, v8, v9, v10, v11], hx, hp => rw [q78]; exact h v0 v1 v2 v3 v4 v5 v6 v7 v8 v9 v10 v11 hx.1 hx.2.1 hx.2.2.1 hx.2.2.2.1 hx.2.2.2.2.1 hx.2.2.2.2.2.1 hx.2.2.2.2.2.2.1 hx.2.2.2.2.2.2.2.1 hx.2.2.2.2.2.2.2.2.1 hx.2.2.2.2.2.2.2.2.2.1 hx.2.2.2.2.2.2.2.2.2.2.1 hx.2.2.2.2.2.2.2.2.2.2.2.1 hp

/-- loop.example/g01242/spec.l01Minus -/
noncomputable def c77 : Cfg := ⟨Try.prog, []⟩
def iv77 : List Iv := [⟨0, 4294967295⟩, ⟨0, 4294967295⟩, ⟨0, 4294967295⟩, ⟨0, 4294967295⟩, ⟨0, 4294967295⟩, ⟨0, 4294967295⟩, ⟨0, 4294967295⟩, ⟨0, 4294967295⟩, ⟨0, 4294967295⟩, ⟨0, 4294967295⟩, ⟨0, 4294967295⟩, ⟨0, 4294967295⟩]
def t77 : VC :=
 (.bind (.sub (.var 0) (.var 6))
 (.bind (.ite (.lt (.var 12) (.lit 0)) (.lit 1) (.lit 0))
 (.bind (.ite (.lt (.var 12) (.lit 0)) (.add (.var 12) (.lit 4294967296)) (.var 12))
 (.bind (.wrap .u32 (.var 14))
 (.bind (.sub (.sub (.var 1) (.var 7)) (.var 13))
 (.bind (.ite (.lt (.var 16) (.lit 0)) (.lit 1) (.lit 0))
 (.bind (.ite (.lt (.var 16) (.lit 0)) (.add (.var 16) (.lit 4294967296)) (.var 16))
 (.bind (.wrap .u32 (.var 18))
 (.bind (.sub (.sub (.var 2) (.var 8)) (.var 17))
 (.bind (.ite (.lt (.var 20) (.lit 0)) (.lit 1) (.lit 0))
 (.bind (.ite (.lt (.var 20) (.lit 0)) (.add (.var 20) (.lit 4294967296)) (.var 20))
 (.bind (.wrap .u32 (.var 22))
 (.bind (.sub (.sub (.var 3) (.var 9)) (.var 21))
 (.bind (.ite (.lt (.var 24) (.lit 0)) (.lit 1) (.lit 0))
 (.bind (.ite (.lt (.var 24) (.lit 0)) (.add (.var 24) (.lit 4294967296)) (.var 24))
 (.bind (.wrap .u32 (.var 26))
 (.bind (.sub (.sub (.var 4) (.var 10)) (.var 25))
 (.bind (.ite (.lt (.var 28) (.lit 0)) (.lit 1) (.lit 0))
 (.bind (.ite (.lt (.var 28) (.lit 0)) (.add (.var 28) (.lit 4294967296)) (.var 28))
 (.bind (.wrap .u32 (.var 30))
 (.bind (.sub (.sub (.var 5) (.var 11)) (.var 29))
 (.bind (.ite (.lt (.var 32) (.lit 0)) (.lit 1) (.lit 0))
 (.bind (.ite (.lt (.var 32) (.lit 0)) (.add (.var 32) (.lit 4294967296)) (.var 32))
 (.bind (.wrap .u32 (.var 34))
 (.fin (.e (.var 15) (.e (.var 19) (.e (.var 23) (.e (.var 27) (.e (.var 31) (.e (.var 35) .nil)))))))))))))))))))))))))))))))
theorem v77 : vcOfI ⟨c77, []⟩ iv77 250 Try.f77 s77 = t77 := by kernel_rfl
set_option linter.unusedVariables false in
def p77 (T : Tab) (I : Nat → List Int → List Int → Prop) (M : Nat → List Int → List Int → Nat) (pre : Nat → List Int → Prop) (post : List Int → Prop) (v0 v1 v2 v3 v4 v5 v6 v7 v8 v9 v10 v11 : Int) : Prop :=
 ∀ v12 : Int, v12 = (v0 - v6) →
 ∀ v13 : Int, v13 = (if decide ((v12 : Int) < 0) = true then 1 else 0) →
 ∀ v14 : Int, v14 = (if decide ((v12 : Int) < 0) = true then (v12 + 4294967296) else v12) →
 ∀ v15 : Int, v15 = (IntKind.wrap .u32 v14) →
 ∀ v16 : Int, v16 = ((v1 - v7) - v13) →
 ∀ v17 : Int, v17 = (if decide ((v16 : Int) < 0) = true then 1 else 0) →
 ∀ v18 : Int, v18 = (if decide ((v16 : Int) < 0) = true then (v16 + 4294967296) else v16) →
 ∀ v19 : Int, v19 = (IntKind.wrap .u32 v18) →
 ∀ v20 : Int, v20 = ((v2 - v8) - v17) →
 ∀ v21 : Int, v21 = (if decide ((v20 : Int) < 0) = true then 1 else 0) →
 ∀ v22 : Int, v22 = (if decide ((v20 : Int) < 0) = true then (v20 + 4294967296) else v20) →
 ∀ v23 : Int, v23 = (IntKind.wrap .u32 v22) →
 ∀ v24 : Int, v24 = ((v3 - v9) - v21) →
 ∀ v25 : Int, v25 = (if decide ((v24 : Int) < 0) = true then 1 else 0) →
 ∀ v26 : Int, v26 = (if decide ((v24 : Int) < 0) = true then (v24 + 4294967296) else v24) →
 ∀ v27 : Int, v27 = (IntKind.wrap .u32 v26) →
 ∀ v28 : Int, v28 = ((v4 - v10) - v25) →
 ∀ v29 : Int, v29 = (if decide ((v28 : Int) < 0) = true then 1 else 0) →
 ∀ v30 : Int, v30 = (if decide ((v28 : Int) < 0) = true then (v28 + 4294967296) else v28) →
 ∀ v31 : Int, v31 = (IntKind.wrap .u32 v30) →
 ∀ v32 : Int, v32 = ((v5 - v11) - v29) →
 ∀ v33 : Int, v33 = (if decide ((v32 : Int) < 0) = true then 1 else 0) →
 ∀ v34 : Int, v34 = (if decide ((v32 : Int) < 0) = true then (v32 + 4294967296) else v32) →
 ∀ v35 : Int, v35 = (IntKind.wrap .u32 v34) →
 post [v15, v19, v23, v27, v31, v35]
theorem q77 (T : Tab) (I : Nat → List Int → List Int → Prop) (M : Nat → List Int → List Int → Nat) (pre : Nat → List Int → Prop) (post : List Int → Prop) (v0 v1 v2 v3 v4 v5 v6 v7 v8 v9 v10 v11 : Int) : t77.plain T (presL pre I M) post ⟨[v0, v1, v2, v3, v4, v5, v6, v7, v8, v9, v10, v11], []⟩ = p77 T I M pre post v0 v1 v2 v3 v4 v5 v6 v7 v8 v9 v10 v11 := by kernel_rfl
theorem k77 (T : Tab) (I : Nat → List Int → List Int → Prop) (M : Nat → List Int → List Int → Nat) (pre : Nat → List Int → Prop) (hs : SubSig T c77.sigs) (ht : Tot pre c77.sigs) (hg : T.sig 77 = some s77) (hC : CtAll Try.prog T.fns (pres pre) c77.sigs)
    (h : ∀ (v0 v1 v2 v3 v4 v5 v6 v7 v8 v9 v10 v11 : Int), (0 ≤ v0 ∧ v0 ≤ 4294967295) → (0 ≤ v1 ∧ v1 ≤ 4294967295) → (0 ≤ v2 ∧ v2 ≤ 4294967295) → (0 ≤ v3 ∧ v3 ≤ 4294967295) → (0 ≤ v4 ∧ v4 ≤ 4294967295) → (0 ≤ v5 ∧ v5 ≤ 4294967295) → (0 ≤ v6 ∧ v6 ≤ 4294967295) → (0 ≤ v7 ∧ v7 ≤ 4294967295) → (0 ≤ v8 ∧ v8 ≤ 4294967295) → (0 ≤ v9 ∧ v9 ≤ 4294967295) → (0 ≤ v10 ∧ v10 ≤ 4294967295) → (0 ≤ v11 ∧ v11 ≤ 4294967295) → pre 77 [v0, v1, v2, v3, v4, v5, v6, v7, v8, v9, v10, v11] → p77 T I M pre (fun ys => ys = T.fn 77 [v0, v1, v2, v3, v4, v5, v6, v7, v8, v9, v10, v11]) v0 v1 v2 v3 v4 v5 v6 v7 v8 v9 v10 v11) : CT Try.prog T.fns (pres pre) 77 s77 :=
  T.ctq (F := ⟨c77, []⟩) (fuel := 250) v77 Try.checked.mixed hs ht hg hC Try.func77 I M (fun _ h _ => h) fun xs hx hp => by
    match xs, hx, hp with
    | [v0, v1, v2, v3, v4, v5, v6, v7, v8, v9, v10, v11], hx, hp => rw [q77]; exact h v0 v1 v2 v3 v4 v5 v6 v7 v8 v9 v10 v11 hx.1 hx.2.1 hx.2.2.1 hx.2.2.2.1 hx.2.2.2.2.1 hx.2.2.2.2.2.1 hx.2.2.2.2.2.2.1 hx.2.2.2.2.2.2.2.1 hx.2.2.2.2.2.2.2.2.1 hx.2.2.2.2.2.2.2.2.2.1 hx.2.2.2.2.2.2.2.2.2.2.1 hx.2.2.2.2.2.2.2.2.2.2.2.1 hp

/-- loop.example/g01242/spec.l01Cmp -/
noncomputable def c80 : Cfg := ⟨Try.prog, []⟩
def iv80 : List Iv := [⟨0, 4294967295⟩, ⟨0, 4294967295⟩, ⟨0, 4294967295⟩, ⟨0, 4294967295⟩, ⟨0, 4294967295⟩, ⟨0, 4294967295⟩, ⟨0, 4294967295⟩, ⟨0, 4294967295⟩, ⟨0, 4294967295⟩, ⟨0, 4294967295⟩, ⟨0, 4294967295⟩, ⟨0, 4294967295⟩]
def t80 : VC :=
 (.ite (.lt (.var 5) (.var 11))
  (.fin (.e (.lit (-1)) .nil))
  (.ite (.lt (.var 11) (.var 5))
   (.fin (.e (.lit 1) .nil))
   (.ite (.lt (.var 4) (.var 10))
    (.fin (.e (.lit (-1)) .nil))
    (.ite (.lt (.var 10) (.var 4))
     (.fin (.e (.lit 1) .nil))
     (.ite (.lt (.var 3) (.var 9))
      (.fin (.e (.lit (-1)) .nil))
      (.ite (.lt (.var 9) (.var 3))
       (.fin (.e (.lit 1) .nil))
       (.ite (.lt (.var 2) (.var 8))
        (.fin (.e (.lit (-1)) .nil))
        (.ite (.lt (.var 8) (.var 2))
         (.fin (.e (.lit 1) .nil))
         (.ite (.lt (.var 1) (.var 7))
          (.fin (.e (.lit (-1)) .nil))
          (.ite (.lt (.var 7) (.var 1))
           (.fin (.e (.lit 1) .nil))
           (.ite (.lt (.var 0) (.var 6))
            (.fin (.e (.lit (-1)) .nil))
            (.ite (.lt (.var 6) (.var 0))
             (.fin (.e (.lit 1) .nil))
             (.fin (.e (.lit 0) .nil))))))))))))))
theorem v80 : vcOfI ⟨c80, []⟩ iv80 250 Try.f80 s80 = t80 := by kernel_rfl
set_option linter.unusedVariables false in
def p80 (T : Tab) (I : Nat → List Int → List Int → Prop) (M : Nat → List Int → List Int → Nat) (pre : Nat → List Int → Prop) (post : List Int → Prop) (v0 v1 v2 v3 v4 v5 v6 v7 v8 v9 v10 v11 : Int) : Prop :=
 ((decide ((v5 : Int) < v11) = true →
  post [(-1)]) ∧ (decide ((v5 : Int) < v11) = false →
  ((decide ((v11 : Int) < v5) = true →
   post [1]) ∧ (decide ((v11 : Int) < v5) = false →
   ((decide ((v4 : Int) < v10) = true →
    post [(-1)]) ∧ (decide ((v4 : Int) < v10) = false →
    ((decide ((v10 : Int) < v4) = true →
     post [1]) ∧ (decide ((v10 : Int) < v4) = false →
     ((decide ((v3 : Int) < v9) = true →
      post [(-1)]) ∧ (decide ((v3 : Int) < v9) = false →
      ((decide ((v9 : Int) < v3) = true →
       post [1]) ∧ (decide ((v9 : Int) < v3) = false →
       ((decide ((v2 : Int) < v8) = true →
        post [(-1)]) ∧ (decide ((v2 : Int) < v8) = false →
        ((decide ((v8 : Int) < v2) = true →
         post [1]) ∧ (decide ((v8 : Int) < v2) = false →
         ((decide ((v1 : Int) < v7) = true →
          post [(-1)]) ∧ (decide ((v1 : Int) < v7) = false →
          ((decide ((v7 : Int) < v1) = true →
           post [1]) ∧ (decide ((v7 : Int) < v1) = false →
           ((decide ((v0 : Int) < v6) = true →
            post [(-1)]) ∧ (decide ((v0 : Int) < v6) = false →
            ((decide ((v6 : Int) < v0) = true →
             post [1]) ∧ (decide ((v6 : Int) < v0) = false →
             post [0]))))))))))))))))))))))))
theorem q80 (T : Tab) (I : Nat → List Int → List Int → Prop) (M : Nat → List Int → List Int → Nat) (pre : Nat → List Int → Prop) (post : List Int → Prop) (v0 v1 v2 v3 v4 v5 v6 v7 v8 v9 v10 v11 : Int) : t80.plain T (presL pre I M) post ⟨[v0, v1, v2, v3, v4, v5, v6, v7, v8, v9, v10, v11], []⟩ = p80 T I M pre post v0 v1 v2 v3 v4 v5 v6 v7 v8 v9 v10 v11 := by kernel_rfl
theorem k80 (T : Tab) (I : Nat → List Int → List Int → Prop) (M : Nat → List Int → List Int → Nat) (pre : Nat → List Int → Prop) (hs : SubSig T c80.sigs) (ht : Tot pre c80.sigs) (hg : T.sig 80 = some s80) (hC : CtAll Try.prog T.fns (pres pre) c80.sigs)
    (h : ∀ (v0 v1 v2 v3 v4 v5 v6 v7 v8 v9 v10 v11 : Int), (0 ≤ v0 ∧ v0 ≤ 4294967295) → (0 ≤ v1 ∧ v1 ≤ 4294967295) → (0 ≤ v2 ∧ v2 ≤ 4294967295) → (0 ≤ v3 ∧ v3 ≤ 4294967295) → (0 ≤ v4 ∧ v4 ≤ 4294967295) → (0 ≤ v5 ∧ v5 ≤ 4294967295) → (0 ≤ v6 ∧ v6 ≤ 4294967295) → (0 ≤ v7 ∧ v7 ≤ 4294967295) → (0 ≤ v8 ∧ v8 ≤ 4294967295) → (0 ≤ v9 ∧ v9 ≤ 4294967295) → (0 ≤ v10 ∧ v10 ≤ 4294967295) → (0 ≤ v11 ∧ v11 ≤ 4294967295) → pre 80 [v0, v1, v2, v3, v4, v5, v6, v7, v8, v9, v10, v11] → p80 T I M pre (fun ys => ys = T.fn 80 [v0, v1, v2, v3, v4, v5, v6, v7, v8, v9, v10, v11]) v0 v1 v2 v3 v4 v5 v6 v7 v8 v9 v10 v11) : CT Try.prog T.fns (pres pre) 80 s80 :=
  T.ctq (F := ⟨c80, []⟩) (fuel := 250) v80 Try.checked.mixed hs ht hg hC Try.func80 I M (fun _ h _ => h) fun xs hx hp => by
    match xs, hx, hp with
    | [v0, v1, v2, v3, v4, v5, v6, v7, v8, v9, v10, v11], hx, hp => rw [q80]; exact h v0 v1 v2 v3 v4 v5 v6 v7 v8 v9 v10 v11 hx.1 hx.2.1 hx.2.2.1 hx.2.2.2.1 hx.2.2.2.2.1 hx.2.2.2.2.2.1 hx.2.2.2.2.2.2.1 hx.2.2.2.2.2.2.2.1 hx.2.2.2.2.2.2.2.2.1 hx.2.2.2.2.2.2.2.2.2.1 hx.2.2.2.2.2.2.2.2.2.2.1 hx.2.2.2.2.2.2.2.2.2.2.2.1 hp

/-- loop.example/g01242/spec.l01Mul -/
noncomputable def c36 : Cfg := ⟨Try.prog, [(64, s64)]⟩
def iv36 : List Iv := [⟨0, 1⟩, ⟨0, 4294967295⟩, ⟨0, 4294967295⟩, ⟨0, 4294967295⟩, ⟨0, 4294967295⟩, ⟨0, 4294967295⟩, ⟨0, 4294967295⟩, ⟨0, 1⟩, ⟨0, 4294967295⟩, ⟨0, 4294967295⟩, ⟨0, 4294967295⟩, ⟨0, 4294967295⟩, ⟨0, 4294967295⟩, ⟨0, 4294967295⟩]
def t36 : VC :=
 (.bind (.mul (.var 1) (.var 8))
 (.bind (.wrap .u32 (.var 14))
 (.bind (.div (.var 14) (.lit 4294967296))
 (.bind (.add (.mul (.var 1) (.var 9)) (.var 16))
 (.bind (.wrap .u32 (.var 17))
 (.bind (.div (.var 17) (.lit 4294967296))
 (.bind (.add (.mul (.var 1) (.var 10)) (.var 19))
 (.bind (.wrap .u32 (.var 20))
 (.bind (.div (.var 20) (.lit 4294967296))
 (.bind (.add (.mul (.var 1) (.var 11)) (.var 22))
 (.bind (.wrap .u32 (.var 23))
 (.bind (.div (.var 23) (.lit 4294967296))
 (.bind (.add (.mul (.var 1) (.var 12)) (.var 25))
 (.bind (.wrap .u32 (.var 26))
 (.bind (.div (.var 26) (.lit 4294967296))
 (.bind (.add (.mul (.var 1) (.var 13)) (.var 28))
 (.bind (.wrap .u32 (.var 29))
 (.bind (.div (.var 29) (.lit 4294967296))
 (.bind (.add (.mul (.var 2) (.var 8)) (.var 18))
 (.bind (.wrap .u32 (.var 32))
 (.bind (.div (.var 32) (.lit 4294967296))
 (.bind (.add (.add (.mul (.var 2) (.var 9)) (.var 21)) (.var 34))
 (.bind (.wrap .u32 (.var 35))
 (.bind (.div (.var 35) (.lit 4294967296))
 (.bind (.add (.add (.mul (.var 2) (.var 10)) (.var 24)) (.var 37))
 (.bind (.wrap .u32 (.var 38))
 (.bind (.div (.var 38) (.lit 4294967296))
 (.bind (.add (.add (.mul (.var 2) (.var 11)) (.var 27)) (.var 40))
 (.bind (.wrap .u32 (.var 41))
 (.bind (.div (.var 41) (.lit 4294967296))
 (.bind (.add (.add (.mul (.var 2) (.var 12)) (.var 30)) (.var 43))
 (.bind (.wrap .u32 (.var 44))
 (.bind (.div (.var 44) (.lit 4294967296))
 (.bind (.add (.add (.mul (.var 2) (.var 13)) (.var 31)) (.var 46))
 (.bind (.wrap .u32 (.var 47))
 (.bind (.div (.var 47) (.lit 4294967296))
 (.bind (.add (.mul (.var 3) (.var 8)) (.var 36))
 (.bind (.wrap .u32 (.var 50))
 (.bind (.div (.var 50) (.lit 4294967296))
 (.bind (.add (.add (.mul (.var 3) (.var 9)) (.var 39)) (.var 52))
 (.bind (.wrap .u32 (.var 53))
 (.bind (.div (.var 53) (.lit 4294967296))
 (.bind (.add (.add (.mul (.var 3) (.var 10)) (.var 42)) (.var 55))
 (.bind (.wrap .u32 (.var 56))
 (.bind (.div (.var 56) (.lit 4294967296))
 (.bind (.add (.add (.mul (.var 3) (.var 11)) (.var 45)) (.var 58))
 (.bind (.wrap .u32 (.var 59))
 (.bind (.div (.var 59) (.lit 4294967296))
 (.bind (.add (.add (.mul (.var 3) (.var 12)) (.var 48)) (.var 61))
 (.bind (.wrap .u32 (.var 62))
 (.bind (.div (.var 62) (.lit 4294967296))
 (.bind (.add (.add (.mul (.var 3) (.var 13)) (.var 49)) (.var 64))
 (.bind (.wrap .u32 (.var 65))
 (.bind (.div (.var 65) (.lit 4294967296))
 (.bind (.add (.mul (.var 4) (.var 8)) (.var 54))
 (.bind (.wrap .u32 (.var 68))
 (.bind (.div (.var 68) (.lit 4294967296))
 (.bind (.add (.add (.mul (.var 4) (.var 9)) (.var 57)) (.var 70))
 (.bind (.wrap .u32 (.var 71))
 (.bind (.div (.var 71) (.lit 4294967296))
 (.bind (.add (.add (.mul (.var 4) (.var 10)) (.var 60)) (.var 73))
 (.bind (.wrap .u32 (.var 74))
 (.bind (.div (.var 74) (.lit 4294967296))
 (.bind (.add (.add (.mul (.var 4) (.var 11)) (.var 63)) (.var 76))
 (.bind (.wrap .u32 (.var 77))
 (.bind (.div (.var 77) (.lit 4294967296))
 (.bind (.add (.add (.mul (.var 4) (.var 12)) (.var 66)) (.var 79))
 (.bind (.wrap .u32 (.var 80))
 (.bind (.div (.var 80) (.lit 4294967296))
 (.bind (.add (.add (.mul (.var 4) (.var 13)) (.var 67)) (.var 82))
 (.bind (.wrap .u32 (.var 83))
 (.bind (.div (.var 83) (.lit 4294967296))
 (.bind (.add (.mul (.var 5) (.var 8)) (.var 72))
 (.bind (.wrap .u32 (.var 86))
 (.bind (.div (.var 86) (.lit 4294967296))
 (.bind (.add (.add (.mul (.var 5) (.var 9)) (.var 75)) (.var 88))
 (.bind (.wrap .u32 (.var 89))
 (.bind (.div (.var 89) (.lit 4294967296))
 (.bind (.add (.add (.mul (.var 5) (.var 10)) (.var 78)) (.var 91))
 (.bind (.wrap .u32 (.var 92))
 (.bind (.div (.var 92) (.lit 4294967296))
 (.bind (.add (.add (.mul (.var 5) (.var 11)) (.var 81)) (.var 94))
 (.bind (.wrap .u32 (.var 95))
 (.bind (.div (.var 95) (.lit 4294967296))
 (.bind (.add (.add (.mul (.var 5) (.var 12)) (.var 84)) (.var 97))
 (.bind (.wrap .u32 (.var 98))
 (.bind (.div (.var 98) (.lit 4294967296))
 (.bind (.add (.add (.mul (.var 5) (.var 13)) (.var 85)) (.var 100))
 (.bind (.wrap .u32 (.var 101))
 (.bind (.div (.var 101) (.lit 4294967296))
 (.bind (.add (.mul (.var 6) (.var 8)) (.var 90))
 (.bind (.wrap .u32 (.var 104))
 (.bind (.div (.var 104) (.lit 4294967296))
 (.bind (.add (.add (.mul (.var 6) (.var 9)) (.var 93)) (.var 106))
 (.bind (.wrap .u32 (.var 107))
 (.bind (.div (.var 107) (.lit 4294967296))
 (.bind (.add (.add (.mul (.var 6) (.var 10)) (.var 96)) (.var 109))
 (.bind (.wrap .u32 (.var 110))
 (.bind (.div (.var 110) (.lit 4294967296))
 (.bind (.add (.add (.mul (.var 6) (.var 11)) (.var 99)) (.var 112))
 (.bind (.wrap .u32 (.var 113))
 (.bind (.div (.var 113) (.lit 4294967296))
 (.bind (.add (.add (.mul (.var 6) (.var 12)) (.var 102)) (.var 115))
 (.bind (.wrap .u32 (.var 116))
 (.bind (.div (.var 116) (.lit 4294967296))
 (.bind (.add (.add (.mul (.var 6) (.var 13)) (.var 103)) (.var 118))
 (.bind (.wrap .u32 (.var 119))
 (.bind (.div (.var 119) (.lit 4294967296))
 (.ite (.not (.eq (.var 108) (.lit 0)))
  (.fin (.e (.lit 0) (.e (.lit 0) (.e (.lit 0) (.e (.lit 0) (.e (.lit 0) (.e (.lit 0) (.e (.lit 0) (.e (.lit 3) .nil)))))))))
  (.ite (.not (.eq (.var 111) (.lit 0)))
   (.fin (.e (.lit 0) (.e (.lit 0) (.e (.lit 0) (.e (.lit 0) (.e (.lit 0) (.e (.lit 0) (.e (.lit 0) (.e (.lit 3) .nil)))))))))
   (.ite (.not (.eq (.var 114) (.lit 0)))
    (.fin (.e (.lit 0) (.e (.lit 0) (.e (.lit 0) (.e (.lit 0) (.e (.lit 0) (.e (.lit 0) (.e (.lit 0) (.e (.lit 3) .nil)))))))))
    (.ite (.not (.eq (.var 117) (.lit 0)))
     (.fin (.e (.lit 0) (.e (.lit 0) (.e (.lit 0) (.e (.lit 0) (.e (.lit 0) (.e (.lit 0) (.e (.lit 0) (.e (.lit 3) .nil)))))))))
     (.ite (.not (.eq (.var 120) (.lit 0)))
      (.fin (.e (.lit 0) (.e (.lit 0) (.e (.lit 0) (.e (.lit 0) (.e (.lit 0) (.e (.lit 0) (.e (.lit 0) (.e (.lit 3) .nil)))))))))
      (.ite (.not (.eq (.var 121) (.lit 0)))
       (.fin (.e (.lit 0) (.e (.lit 0) (.e (.lit 0) (.e (.lit 0) (.e (.lit 0) (.e (.lit 0) (.e (.lit 0) (.e (.lit 3) .nil)))))))))
       (.call 64 (.e (.ite (.not (.beq (.eq (.var 0) (.lit 1)) (.eq (.var 7) (.lit 1)))) (.lit 1) (.lit 0)) (.e (.var 15) (.e (.var 33) (.e (.var 51) (.e (.var 69) (.e (.var 87) (.e (.var 105) .nil))))))) 7
       (.fin (.e (.var 122) (.e (.var 123) (.e (.var 124) (.e (.var 125) (.e (.var 126) (.e (.var 127) (.e (.var 128) (.e (.lit 0) .nil))))))))))))))))))))))))))))))))))))))))))))))))))))))))))))))))))))))))))))))))))))))))))))))))))))))))))))))))))))))))))))
theorem v36 : vcOfI ⟨c36, []⟩ iv36 250 Try.f36 s36 = t36 := by kernel_rfl
set_option linter.unusedVariables false in
def p36 (T : Tab) (I : Nat → List Int → List Int → Prop) (M : Nat → List Int → List Int → Nat) (pre : Nat → List Int → Prop) (post : List Int → Prop) (v0 v1 v2 v3 v4 v5 v6 v7 v8 v9 v10 v11 v12 v13 : Int) : Prop :=
 ∀ v14 : Int, v14 = (v1 * v8) →
 ∀ v15 : Int, v15 = (IntKind.wrap .u32 v14) →
 ∀ v16 : Int, v16 = (v14 / 4294967296) →
 ∀ v17 : Int, v17 = ((v1 * v9) + v16) →
 ∀ v18 : Int, v18 = (IntKind.wrap .u32 v17) →
 ∀ v19 : Int, v19 = (v17 / 4294967296) →
 ∀ v20 : Int, v20 = ((v1 * v10) + v19) →
 ∀ v21 : Int, v21 = (IntKind.wrap .u32 v20) →
 ∀ v22 : Int, v22 = (v20 / 4294967296) →
 ∀ v23 : Int, v23 = ((v1 * v11) + v22) →
 ∀ v24 : Int, v24 = (IntKind.wrap .u32 v23) →
 ∀ v25 : Int, v25 = (v23 / 4294967296) →
 ∀ v26 : Int, v26 = ((v1 * v12) + v25) →
 ∀ v27 : Int, v27 = (IntKind.wrap .u32 v26) →
 ∀ v28 : Int, v28 = (v26 / 4294967296) →
 ∀ v29 : Int, v29 = ((v1 * v13) + v28) →
 ∀ v30 : Int, v30 = (IntKind.wrap .u32 v29) →
 ∀ v31 : Int, v31 = (v29 / 4294967296) →
 ∀ v32 : Int, v32 = ((v2 * v8) + v18) →
 ∀ v33 : Int, v33 = (IntKind.wrap .u32 v32) →
 ∀ v34 : Int, v34 = (v32 / 4294967296) →
 ∀ v35 : Int, v35 = (((v2 * v9) + v21) + v34) →
 ∀ v36 : Int, v36 = (IntKind.wrap .u32 v35) →
 ∀ v37 : Int, v37 = (v35 / 4294967296) →
 ∀ v38 : Int, v38 = (((v2 * v10) + v24) + v37) →
 ∀ v39 : Int, v39 = (IntKind.wrap .u32 v38) →
 ∀ v40 : Int, v40 = (v38 / 4294967296) →
 ∀ v41 : Int, v41 = (((v2 * v11) + v27) + v40) →
 ∀ v42 : Int, v42 = (IntKind.wrap .u32 v41) →
 ∀ v43 : Int, v43 = (v41 / 4294967296) →
 ∀ v44 : Int, v44 = (((v2 * v12) + v30) + v43) →
 ∀ v45 : Int, v45 = (IntKind.wrap .u32 v44) →
 ∀ v46 : Int, v46 = (v44 / 4294967296) →
 ∀ v47 : Int, v47 = (((v2 * v13) + v31) + v46) →
 ∀ v48 : Int, v48 = (IntKind.wrap .u32 v47) →
 ∀ v49 : Int, v49 = (v47 / 4294967296) →
 ∀ v50 : Int, v50 = ((v3 * v8) + v36) →
 ∀ v51 : Int, v51 = (IntKind.wrap .u32 v50) →
 ∀ v52 : Int, v52 = (v50 / 4294967296) →
 ∀ v53 : Int, v53 = (((v3 * v9) + v39) + v52) →
 ∀ v54 : Int, v54 = (IntKind.wrap .u32 v53) →
 ∀ v55 : Int, v55 = (v53 / 4294967296) →
 ∀ v56 : Int, v56 = (((v3 * v10) + v42) + v55) →
 ∀ v57 : Int, v57 = (IntKind.wrap .u32 v56) →
 ∀ v58 : Int, v58 = (v56 / 4294967296) →
 ∀ v59 : Int, v59 = (((v3 * v11) + v45) + v58) →
 ∀ v60 : Int, v60 = (IntKind.wrap .u32 v59) →
 ∀ v61 : Int, v61 = (v59 / 4294967296) →
 ∀ v62 : Int, v62 = (((v3 * v12) + v48) + v61) →
 ∀ v63 : Int, v63 = (IntKind.wrap .u32 v62) →
 ∀ v64 : Int, v64 = (v62 / 4294967296) →
 ∀ v65 : Int, v65 = (((v3 * v13) + v49) + v64) →
 ∀ v66 : Int, v66 = (IntKind.wrap .u32 v65) →
 ∀ v67 : Int, v67 = (v65 / 4294967296) →
 ∀ v68 : Int, v68 = ((v4 * v8) + v54) →
 ∀ v69 : Int, v69 = (IntKind.wrap .u32 v68) →
 ∀ v70 : Int, v70 = (v68 / 4294967296) →
 ∀ v71 : Int, v71 = (((v4 * v9) + v57) + v70) →
 ∀ v72 : Int, v72 = (IntKind.wrap .u32 v71) →
 ∀ v73 : Int, v73 = (v71 / 4294967296) →
 ∀ v74 : Int, v74 = (((v4 * v10) + v60) + v73) →
 ∀ v75 : Int, v75 = (IntKind.wrap .u32 v74) →
 ∀ v76 : Int, v76 = (v74 / 4294967296) →
 ∀ v77 : Int, v77 = (((v4 * v11) + v63) + v76) →
 ∀ v78 : Int, v78 = (IntKind.wrap .u32 v77) →
 ∀ v79 : Int, v79 = (v77 / 4294967296) →
 ∀ v80 : Int, v80 = (((v4 * v12) + v66) + v79) →
 ∀ v81 : Int, v81 = (IntKind.wrap .u32 v80) →
 ∀ v82 : Int, v82 = (v80 / 4294967296) →
 ∀ v83 : Int, v83 = (((v4 * v13) + v67) + v82) →
 ∀ v84 : Int, v84 = (IntKind.wrap .u32 v83) →
 ∀ v85 : Int, v85 = (v83 / 4294967296) →
 ∀ v86 : Int, v86 = ((v5 * v8) + v72) →
 ∀ v87 : Int, v87 = (IntKind.wrap .u32 v86) →
 ∀ v88 : Int, v88 = (v86 / 4294967296) →
 ∀ v89 : Int, v89 = (((v5 * v9) + v75) + v88) →
 ∀ v90 : Int, v90 = (IntKind.wrap .u32 v89) →
 ∀ v91 : Int, v91 = (v89 / 4294967296) →
 ∀ v92 : Int, v92 = (((v5 * v10) + v78) + v91) →
 ∀ v93 : Int, v93 = (IntKind.wrap .u32 v92) →
 ∀ v94 : Int, v94 = (v92 / 4294967296) →
 ∀ v95 : Int, v95 = (((v5 * v11) + v81) + v94) →
 ∀ v96 : Int, v96 = (IntKind.wrap .u32 v95) →
 ∀ v97 : Int, v97 = (v95 / 4294967296) →
 ∀ v98 : Int, v98 = (((v5 * v12) + v84) + v97) →
 ∀ v99 : Int, v99 = (IntKind.wrap .u32 v98) →
 ∀ v100 : Int, v100 = (v98 / 4294967296) →
 ∀ v101 : Int, v101 = (((v5 * v13) + v85) + v100) →
 ∀ v102 : Int, v102 = (IntKind.wrap .u32 v101) →
 ∀ v103 : Int, v103 = (v101 / 4294967296) →
 ∀ v104 : Int, v104 = ((v6 * v8) + v90) →
 ∀ v105 : Int, v105 = (IntKind.wrap .u32 v104) →
 ∀ v106 : Int, v106 = (v104 / 4294967296) →
 ∀ v107 : Int, v107 = (((v6 * v9) + v93) + v106) →
 ∀ v108 : Int, v108 = (IntKind.wrap .u32 v107) →
 ∀ v109 : Int, v109 = (v107 / 4294967296) →
 ∀ v110 : Int, v110 = (((v6 * v10) + v96) + v109) →
 ∀ v111 : Int, v111 = (IntKind.wrap .u32 v110) →
 ∀ v112 : Int, v112 = (v110 / 4294967296) →
 ∀ v113 : Int, v113 = (((v6 * v11) + v99) + v112) →
 ∀ v114 : Int, v114 = (IntKind.wrap .u32 v113) →
 ∀ v115 : Int, v115 = (v113 / 4294967296) →
 ∀ v116 : Int, v116 = (((v6 * v12) + v102) + v115) →
 ∀ v117 : Int, v117 = (IntKind.wrap .u32 v116) →
 ∀ v118 : Int, v118 = (v116 / 4294967296) →
 ∀ v119 : Int, v119 = (((v6 * v13) + v103) + v118) →
 ∀ v120 : Int, v120 = (IntKind.wrap .u32 v119) →
 ∀ v121 : Int, v121 = (v119 / 4294967296) →
 (((!decide ((v108 : Int) = 0)) = true →
  post [0, 0, 0, 0, 0, 0, 0, 3]) ∧ ((!decide ((v108 : Int) = 0)) = false →
  (((!decide ((v111 : Int) = 0)) = true →
   post [0, 0, 0, 0, 0, 0, 0, 3]) ∧ ((!decide ((v111 : Int) = 0)) = false →
   (((!decide ((v114 : Int) = 0)) = true →
    post [0, 0, 0, 0, 0, 0, 0, 3]) ∧ ((!decide ((v114 : Int) = 0)) = false →
    (((!decide ((v117 : Int) = 0)) = true →
     post [0, 0, 0, 0, 0, 0, 0, 3]) ∧ ((!decide ((v117 : Int) = 0)) = false →
     (((!decide ((v120 : Int) = 0)) = true →
      post [0, 0, 0, 0, 0, 0, 0, 3]) ∧ ((!decide ((v120 : Int) = 0)) = false →
      (((!decide ((v121 : Int) = 0)) = true →
       post [0, 0, 0, 0, 0, 0, 0, 3]) ∧ ((!decide ((v121 : Int) = 0)) = false →
       ∀ v122 v123 v124 v125 v126 v127 v128 : Int, [v122, v123, v124, v125, v126, v127, v128] = T.out 64 7 [(if (!(decide ((v0 : Int) = 1) == decide ((v7 : Int) = 1))) = true then 1 else 0), v15, v33, v51, v69, v87, v105] →
       post [v122, v123, v124, v125, v126, v127, v128, 0]))))))))))))
theorem q36 (T : Tab) (I : Nat → List Int → List Int → Prop) (M : Nat → List Int → List Int → Nat) (pre : Nat → List Int → Prop) (post : List Int → Prop) (v0 v1 v2 v3 v4 v5 v6 v7 v8 v9 v10 v11 v12 v13 : Int) : t36.plain T (presL pre I M) post ⟨[v0, v1, v2, v3, v4, v5, v6, v7, v8, v9, v10, v11, v12, v13], []⟩ = p36 T I M pre post v0 v1 v2 v3 v4 v5 v6 v7 v8 v9 v10 v11 v12 v13 := by kernel_rfl
theorem k36 (T : Tab) (I : Nat → List Int → List Int → Prop) (M : Nat → List Int → List Int → Nat) (pre : Nat → List Int → Prop) (hs : SubSig T c36.sigs) (ht : Tot pre c36.sigs) (hg : T.sig 36 = some s36) (hC : CtAll Try.prog T.fns (pres pre) c36.sigs)
    (h : ∀ (v0 v1 v2 v3 v4 v5 v6 v7 v8 v9 v10 v11 v12 v13 : Int), (0 ≤ v0 ∧ v0 ≤ 1) → (0 ≤ v1 ∧ v1 ≤ 4294967295) → (0 ≤ v2 ∧ v2 ≤ 4294967295) → (0 ≤ v3 ∧ v3 ≤ 4294967295) → (0 ≤ v4 ∧ v4 ≤ 4294967295) → (0 ≤ v5 ∧ v5 ≤ 4294967295) → (0 ≤ v6 ∧ v6 ≤ 4294967295) → (0 ≤ v7 ∧ v7 ≤ 1) → (0 ≤ v8 ∧ v8 ≤ 4294967295) → (0 ≤ v9 ∧ v9 ≤ 4294967295) → (0 ≤ v10 ∧ v10 ≤ 4294967295) → (0 ≤ v11 ∧ v11 ≤ 4294967295) → (0 ≤ v12 ∧ v12 ≤ 4294967295) → (0 ≤ v13 ∧ v13 ≤ 4294967295) → pre 36 [v0, v1, v2, v3, v4, v5, v6, v7, v8, v9, v10, v11, v12, v13] → p36 T I M pre (fun ys => ys = T.fn 36 [v0, v1, v2, v3, v4, v5, v6, v7, v8, v9, v10, v11, v12, v13]) v0 v1 v2 v3 v4 v5 v6 v7 v8 v9 v10 v11 v12 v13) : CT Try.prog T.fns (pres pre) 36 s36 :=
  T.ctq (F := ⟨c36, []⟩) (fuel := 250) v36 Try.checked.mixed hs ht hg hC Try.func36 I M (fun _ h _ => h) fun xs hx hp => by
    match xs, hx, hp with
    | [v0, v1, v2, v3, v4, v5, v6, v7, v8, v9, v10, v11, v12, v13], hx, hp => rw [q36]; exact h v0 v1 v2 v3 v4 v5 v6 v7 v8 v9 v10 v11 v12 v13 hx.1 hx.2.1 hx.2.2.1 hx.2.2.2.1 hx.2.2.2.2.1 hx.2.2.2.2.2.1 hx.2.2.2.2.2.2.1 hx.2.2.2.2.2.2.2.1 hx.2.2.2.2.2.2.2.2.1 hx.2.2.2.2.2.2.2.2.2.1 hx.2.2.2.2.2.2.2.2.2.2.1 hx.2.2.2.2.2.2.2.2.2.2.2.1 hx.2.2.2.2.2.2.2.2.2.2.2.2.1 hx.2.2.2.2.2.2.2.2.2.2.2.2.2.1 hp

/-- loop.example/g01242/spec.MulWides -/
noncomputable def c13 : Cfg := ⟨Try.prog, [(35, s35), (36, s36)]⟩
def iv13 : List Iv := [⟨0, 1⟩, ⟨0, 4294967295⟩, ⟨0, 4294967295⟩, ⟨0, 4294967295⟩, ⟨0, 4294967295⟩, ⟨0, 4294967295⟩, ⟨0, 4294967295⟩, ⟨0, 1⟩, ⟨0, 4294967295⟩, ⟨0, 4294967295⟩, ⟨0, 4294967295⟩, ⟨0, 4294967295⟩, ⟨0, 4294967295⟩, ⟨0, 4294967295⟩]
def t13 : VC :=
 (.call 35 (.e (.var 0) (.e (.var 1) (.e (.var 2) (.e (.var 3) (.e (.var 4) (.e (.var 5) (.e (.var 6) .nil))))))) 1
 (.ite (.eq (.var 14) (.lit 1))
  (.call 35 (.e (.var 7) (.e (.var 8) (.e (.var 9) (.e (.var 10) (.e (.var 11) (.e (.var 12) (.e (.var 13) .nil))))))) 1
  (.ite (.not (.eq (.var 15) (.lit 1)))
   (.fin (.e (.lit 0) (.e (.lit 0) (.e (.lit 0) (.e (.lit 0) (.e (.lit 0) (.e (.lit 0) (.e (.lit 0) (.e (.lit 1) .nil)))))))))
   (.call 36 (.e (.var 0) (.e (.var 1) (.e (.var 2) (.e (.var 3) (.e (.var 4) (.e (.var 5) (.e (.var 6) (.e (.var 7) (.e (.var 8) (.e (.var 9) (.e (.var 10) (.e (.var 11) (.e (.var 12) (.e (.var 13) .nil)))))))))))))) 8
   (.fin (.e (.var 16) (.e (.var 17) (.e (.var 18) (.e (.var 19) (.e (.var 20) (.e (.var 21) (.e (.var 22) (.e (.var 23) .nil))))))))))))
  (.fin (.e (.lit 0) (.e (.lit 0) (.e (.lit 0) (.e (.lit 0) (.e (.lit 0) (.e (.lit 0) (.e (.lit 0) (.e (.lit 1) .nil)))))))))))
theorem v13 : vcOfI ⟨c13, []⟩ iv13 250 Try.f13 s13 = t13 := by kernel_rfl
set_option linter.unusedVariables false in
def p13 (T : Tab) (I : Nat → List Int → List Int → Prop) (M : Nat → List Int → List Int → Nat) (pre : Nat → List Int → Prop) (post : List Int → Prop) (v0 v1 v2 v3 v4 v5 v6 v7 v8 v9 v10 v11 v12 v13 : Int) : Prop :=
 ∀ v14 : Int, [v14] = T.out 35 1 [v0, v1, v2, v3, v4, v5, v6] →
 ((decide ((v14 : Int) = 1) = true →
  ∀ v15 : Int, [v15] = T.out 35 1 [v7, v8, v9, v10, v11, v12, v13] →
  (((!decide ((v15 : Int) = 1)) = true →
   post [0, 0, 0, 0, 0, 0, 0, 1]) ∧ ((!decide ((v15 : Int) = 1)) = false →
   ∀ v16 v17 v18 v19 v20 v21 v22 v23 : Int, [v16, v17, v18, v19, v20, v21, v22, v23] = T.out 36 8 [v0, v1, v2, v3, v4, v5, v6, v7, v8, v9, v10, v11, v12, v13] →
   post [v16, v17, v18, v19, v20, v21, v22, v23]))) ∧ (decide ((v14 : Int) = 1) = false →
  post [0, 0, 0, 0, 0, 0, 0, 1]))
theorem q13 (T : Tab) (I : Nat → List Int → List Int → Prop) (M : Nat → List Int → List Int → Nat) (pre : Nat → List Int → Prop) (post : List Int → Prop) (v0 v1 v2 v3 v4 v5 v6 v7 v8 v9 v10 v11 v12 v13 : Int) : t13.plain T (presL pre I M) post ⟨[v0, v1, v2, v3, v4, v5, v6, v7, v8, v9, v10, v11, v12, v13], []⟩ = p13 T I M pre post v0 v1 v2 v3 v4 v5 v6 v7 v8 v9 v10 v11 v12 v13 := by kernel_rfl
theorem k13 (T : Tab) (I : Nat → List Int → List Int → Prop) (M : Nat → List Int → List Int → Nat) (pre : Nat → List Int → Prop) (hs : SubSig T c13.sigs) (ht : Tot pre c13.sigs) (hg : T.sig 13 = some s13) (hC : CtAll Try.prog T.fns (pres pre) c13.sigs)
    (h : ∀ (v0 v1 v2 v3 v4 v5 v6 v7 v8 v9 v10 v11 v12 v13 : Int), (0 ≤ v0 ∧ v0 ≤ 1) → (0 ≤ v1 ∧ v1 ≤ 4294967295) → (0 ≤ v2 ∧ v2 ≤ 4294967295) → (0 ≤ v3 ∧ v3 ≤ 4294967295) → (0 ≤ v4 ∧ v4 ≤ 4294967295) → (0 ≤ v5 ∧ v5 ≤ 4294967295) → (0 ≤ v6 ∧ v6 ≤ 4294967295) → (0 ≤ v7 ∧ v7 ≤ 1) → (0 ≤ v8 ∧ v8 ≤ 4294967295) → (0 ≤ v9 ∧ v9 ≤ 4294967295) → (0 ≤ v10 ∧ v10 ≤ 4294967295) → (0 ≤ v11 ∧ v11 ≤ 4294967295) → (0 ≤ v12 ∧ v12 ≤ 4294967295) → (0 ≤ v13 ∧ v13 ≤ 4294967295) → pre 13 [v0, v1, v2, v3, v4, v5, v6, v7, v8, v9, v10, v11, v12, v13] → p13 T I M pre (fun ys => ys = T.fn 13 [v0, v1, v2, v3, v4, v5, v6, v7, v8, v9, v10, v11, v12, v13]) v0 v1 v2 v3 v4 v5 v6 v7 v8 v9 v10 v11 v12 v13) : CT Try.prog T.fns (pres pre) 13 s13 :=
  T.ctq (F := ⟨c13, []⟩) (fuel := 250) v13 Try.checked.mixed hs ht hg hC Try.func13 I M (fun _ h _ => h) fun xs hx hp => by
    match xs, hx, hp with
    | [v0, v1, v2, v3, v4, v5, v6, v7, v8, v9, v10, v11, v12, v13], hx, hp => rw [q13]; exact h v0 v1 v2 v3 v4 v5 v6 v7 v8 v9 v10 v11 v12 v13 hx.1 hx.2.1 hx.2.2.1 hx.2.2.2.1 hx.2.2.2.2.1 hx.2.2.2.2.2.1 hx.2.2.2.2.2.2.1 hx.2.2.2.2.2.2.2.1 hx.2.2.2.2.2.2.2.2.1 hx.2.2.2.2.2.2.2.2.2.1 hx.2.2.2.2.2.2.2.2.2.2.1 hx.2.2.2.2.2.2.2.2.2.2.2.1 hx.2.2.2.2.2.2.2.2.2.2.2.2.1 hx.2.2.2.2.2.2.2.2.2.2.2.2.2.1 hp

/-- loop.example/g01242/spec.ShiftUp -/
noncomputable def c17 : Cfg := ⟨Try.prog, [(35, s35), (42, s42), (43, s43)]⟩
def iv17 : List Iv := [⟨0, 1⟩, ⟨0, 4294967295⟩, ⟨0, 4294967295⟩, ⟨0, 4294967295⟩, ⟨0, 4294967295⟩, ⟨0, 4294967295⟩, ⟨0, 4294967295⟩, ⟨(-9223372036854775808), 9223372036854775807⟩]
def t17 : VC :=
 (.call 35 (.e (.var 0) (.e (.var 1) (.e (.var 2) (.e (.var 3) (.e (.var 4) (.e (.var 5) (.e (.var 6) .nil))))))) 1
 (.ite (.not (.eq (.var 8) (.lit 1)))
  (.fin (.e (.lit 0) (.e (.lit 0) (.e (.lit 0) (.e (.lit 0) (.e (.lit 0) (.e (.lit 0) (.e (.lit 0) (.e (.lit 1) .nil)))))))))
  (.call 42 (.e (.var 7) .nil) 1
  (.ite (.not (.eq (.var 9) (.lit 1)))
   (.fin (.e (.lit 0) (.e (.lit 0) (.e (.lit 0) (.e (.lit 0) (.e (.lit 0) (.e (.lit 0) (.e (.lit 0) (.e (.lit 2) .nil)))))))))
   (.need [(.pre 43 (.e (.var 0) (.e (.var 1) (.e (.var 2) (.e (.var 3) (.e (.var 4) (.e (.var 5) (.e (.var 6) (.e (.var 7) .nil)))))))))]
   (.call 43 (.e (.var 0) (.e (.var 1) (.e (.var 2) (.e (.var 3) (.e (.var 4) (.e (.var 5) (.e (.var 6) (.e (.var 7) .nil)))))))) 8
   (.fin (.e (.var 10) (.e (.var 11) (.e (.var 12) (.e (.var 13) (.e (.var 14) (.e (.var 15) (.e (.var 16) (.e (.var 17) .nil)))))))))))))))
theorem v17 : vcOfI ⟨c17, []⟩ iv17 250 Try.f17 s17 = t17 := by kernel_rfl
set_option linter.unusedVariables false in
def p17 (T : Tab) (I : Nat → List Int → List Int → Prop) (M : Nat → List Int → List Int → Nat) (pre : Nat → List Int → Prop) (post : List Int → Prop) (v0 v1 v2 v3 v4 v5 v6 v7 : Int) : Prop :=
 ∀ v8 : Int, [v8] = T.out 35 1 [v0, v1, v2, v3, v4, v5, v6] →
 (((!decide ((v8 : Int) = 1)) = true →
  post [0, 0, 0, 0, 0, 0, 0, 1]) ∧ ((!decide ((v8 : Int) = 1)) = false →
  ∀ v9 : Int, [v9] = T.out 42 1 [v7] →
  (((!decide ((v9 : Int) = 1)) = true →
   post [0, 0, 0, 0, 0, 0, 0, 2]) ∧ ((!decide ((v9 : Int) = 1)) = false →
   ((pre 43 [v0, v1, v2, v3, v4, v5, v6, v7]) ∧ ((pre 43 [v0, v1, v2, v3, v4, v5, v6, v7]) →
   ∀ v10 v11 v12 v13 v14 v15 v16 v17 : Int, [v10, v11, v12, v13, v14, v15, v16, v17] = T.out 43 8 [v0, v1, v2, v3, v4, v5, v6, v7] →
   post [v10, v11, v12, v13, v14, v15, v16, v17]))))))
theorem q17 (T : Tab) (I : Nat → List Int → List Int → Prop) (M : Nat → List Int → List Int → Nat) (pre : Nat → List Int → Prop) (post : List Int → Prop) (v0 v1 v2 v3 v4 v5 v6 v7 : Int) : t17.plain T (presL pre I M) post ⟨[v0, v1, v2, v3, v4, v5, v6, v7], []⟩ = p17 T I M pre post v0 v1 v2 v3 v4 v5 v6 v7 := by kernel_rfl
theorem k17 (T : Tab) (I : Nat → List Int → List Int → Prop) (M : Nat → List Int → List Int → Nat) (pre : Nat → List Int → Prop) (hs : SubSig T c17.sigs) (ht : Tot pre c17.sigs) (hg : T.sig 17 = some s17) (hC : CtAll Try.prog T.fns (pres pre) c17.sigs)
    (h : ∀ (v0 v1 v2 v3 v4 v5 v6 v7 : Int), (0 ≤ v0 ∧ v0 ≤ 1) → (0 ≤ v1 ∧ v1 ≤ 4294967295) → (0 ≤ v2 ∧ v2 ≤ 4294967295) → (0 ≤ v3 ∧ v3 ≤ 4294967295) → (0 ≤ v4 ∧ v4 ≤ 4294967295) → (0 ≤ v5 ∧ v5 ≤ 4294967295) → (0 ≤ v6 ∧ v6 ≤ 4294967295) → ((-9223372036854775808) ≤ v7 ∧ v7 ≤ 9223372036854775807) → pre 17 [v0, v1, v2, v3, v4, v5, v6, v7] → p17 T I M pre (fun ys => ys = T.fn 17 [v0, v1, v2, v3, v4, v5, v6, v7]) v0 v1 v2 v3 v4 v5 v6 v7) : CT Try.prog T.fns (pres pre) 17 s17 :=
  T.ctq (F := ⟨c17, []⟩) (fuel := 250) v17 Try.checked.mixed hs ht hg hC Try.func17 I M (fun _ h _ => h) fun xs hx hp => by
    match xs, hx, hp with
    | [v0, v1, v2, v3, v4, v5, v6, v7], hx, hp => rw [q17]; exact h v0 v1 v2 v3 v4 v5 v6 v7 hx.1 hx.2.1 hx.2.2.1 hx.2.2.2.1 hx.2.2.2.2.1 hx.2.2.2.2.2.1 hx.2.2.2.2.2.2.1 hx.2.2.2.2.2.2.2.1 hp

/-- loop.example/g01242/spec.ShiftNear -/
noncomputable def c19 : Cfg := ⟨Try.prog, [(35, s35), (42, s42), (47, s47)]⟩
def iv19 : List Iv := [⟨0, 1⟩, ⟨0, 4294967295⟩, ⟨0, 4294967295⟩, ⟨0, 4294967295⟩, ⟨0, 4294967295⟩, ⟨0, 4294967295⟩, ⟨0, 4294967295⟩, ⟨(-9223372036854775808), 9223372036854775807⟩]
def t19 : VC :=
 (.call 35 (.e (.var 0) (.e (.var 1) (.e (.var 2) (.e (.var 3) (.e (.var 4) (.e (.var 5) (.e (.var 6) .nil))))))) 1
 (.ite (.not (.eq (.var 8) (.lit 1)))
  (.fin (.e (.lit 0) (.e (.lit 0) (.e (.lit 0) (.e (.lit 0) (.e (.lit 0) (.e (.lit 0) (.e (.lit 0) (.e (.lit 1) .nil)))))))))
  (.call 42 (.e (.var 7) .nil) 1
  (.ite (.not (.eq (.var 9) (.lit 1)))
   (.fin (.e (.lit 0) (.e (.lit 0) (.e (.lit 0) (.e (.lit 0) (.e (.lit 0) (.e (.lit 0) (.e (.lit 0) (.e (.lit 2) .nil)))))))))
   (.need [(.pre 47 (.e (.var 0) (.e (.var 1) (.e (.var 2) (.e (.var 3) (.e (.var 4) (.e (.var 5) (.e (.var 6) (.e (.var 7) .nil)))))))))]
   (.call 47 (.e (.var 0) (.e (.var 1) (.e (.var 2) (.e (.var 3) (.e (.var 4) (.e (.var 5) (.e (.var 6) (.e (.var 7) .nil)))))))) 7
   (.fin (.e (.var 10) (.e (.var 11) (.e (.var 12) (.e (.var 13) (.e (.var 14) (.e (.var 15) (.e (.var 16) (.e (.lit 0) .nil)))))))))))))))
theorem v19 : vcOfI ⟨c19, []⟩ iv19 250 Try.f19 s19 = t19 := by kernel_rfl
set_option linter.unusedVariables false in
def p19 (T : Tab) (I : Nat → List Int → List Int → Prop) (M : Nat → List Int → List Int → Nat) (pre : Nat → List Int → Prop) (post : List Int → Prop) (v0 v1 v2 v3 v4 v5 v6 v7 : Int) : Prop :=
 ∀ v8 : Int, [v8] = T.out 35 1 [v0, v1, v2, v3, v4, v5, v6] →
 (((!decide ((v8 : Int) = 1)) = true →
  post [0, 0, 0, 0, 0, 0, 0, 1]) ∧ ((!decide ((v8 : Int) = 1)) = false →
  ∀ v9 : Int, [v9] = T.out 42 1 [v7] →
  (((!decide ((v9 : Int) = 1)) = true →
   post [0, 0, 0, 0, 0, 0, 0, 2]) ∧ ((!decide ((v9 : Int) = 1)) = false →
   ((pre 47 [v0, v1, v2, v3, v4, v5, v6, v7]) ∧ ((pre 47 [v0, v1, v2, v3, v4, v5, v6, v7]) →
   ∀ v10 v11 v12 v13 v14 v15 v16 : Int, [v10, v11, v12, v13, v14, v15, v16] = T.out 47 7 [v0, v1, v2, v3, v4, v5, v6, v7] →
   post [v10, v11, v12, v13, v14, v15, v16, 0]))))))
theorem q19 (T : Tab) (I : Nat → List Int → List Int → Prop) (M : Nat → List Int → List Int → Nat) (pre : Nat → List Int → Prop) (post : List Int → Prop) (v0 v1 v2 v3 v4 v5 v6 v7 : Int) : t19.plain T (presL pre I M) post ⟨[v0, v1, v2, v3, v4, v5, v6, v7], []⟩ = p19 T I M pre post v0 v1 v2 v3 v4 v5 v6 v7 := by kernel_rfl
theorem k19 (T : Tab) (I : Nat → List Int → List Int → Prop) (M : Nat → List Int → List Int → Nat) (pre : Nat → List Int → Prop) (hs : SubSig T c19.sigs) (ht : Tot pre c19.sigs) (hg : T.sig 19 = some s19) (hC : CtAll Try.prog T.fns (pres pre) c19.sigs)
    (h : ∀ (v0 v1 v2 v3 v4 v5 v6 v7 : Int), (0 ≤ v0 ∧ v0 ≤ 1) → (0 ≤ v1 ∧ v1 ≤ 4294967295) → (0 ≤ v2 ∧ v2 ≤ 4294967295) → (0 ≤ v3 ∧ v3 ≤ 4294967295) → (0 ≤ v4 ∧ v4 ≤ 4294967295) → (0 ≤ v5 ∧ v5 ≤ 4294967295) → (0 ≤ v6 ∧ v6 ≤ 4294967295) → ((-9223372036854775808) ≤ v7 ∧ v7 ≤ 9223372036854775807) → pre 19 [v0, v1, v2, v3, v4, v5, v6, v7] → p19 T I M pre (fun ys => ys = T.fn 19 [v0, v1, v2, v3, v4, v5, v6, v7]) v0 v1 v2 v3 v4 v5 v6 v7) : CT Try.prog T.fns (pres pre) 19 s19 :=
  T.ctq (F := ⟨c19, []⟩) (fuel := 250) v19 Try.checked.mixed hs ht hg hC Try.func19 I M (fun _ h _ => h) fun xs hx hp => by
    match xs, hx, hp with
    | [v0, v1, v2, v3, v4, v5, v6, v7], hx, hp => rw [q19]; exact h v0 v1 v2 v3 v4 v5 v6 v7 hx.1 hx.2.1 hx.2.2.1 hx.2.2.2.1 hx.2.2.2.2.1 hx.2.2.2.2.2.1 hx.2.2.2.2.2.2.1 hx.2.2.2.2.2.2.2.1 hp

end Go.Proofs.Ytppbanmlifikpab.Sx
