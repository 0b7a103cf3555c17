/-
  What the symbolic executor asks of these functions, written out by a program of mine, and that it asks just this.
-/
import Derived.Test.YtppbanmlifikpabV2s
import Derived.Test.YtppbanmlifikpabChecked
import Derived.KernelRfl
namespace Go.Proofs.Ytppbanmlifikpab.Sx
open Go Go.RowKit
/-- loop.example/g01242/laws.FnExactMulWides -/
noncomputable def c3 : Cfg := ⟨Try.prog, [(14, s14), (13, s13), (15, s15), (16, s16)]⟩
def iv3 : List Iv := [⟨0, 1⟩, ⟨0, 4294967295⟩, ⟨0, 4294967295⟩, ⟨0, 4294967295⟩, ⟨0, 4294967295⟩, ⟨0, 4294967295⟩, ⟨0, 4294967295⟩, ⟨0, 1⟩, ⟨0, 4294967295⟩, ⟨0, 4294967295⟩, ⟨0, 4294967295⟩, ⟨0, 4294967295⟩, ⟨0, 4294967295⟩, ⟨0, 4294967295⟩]
def t3 : VC :=
 (.call 14 (.e (.var 0) (.e (.var 1) (.e (.var 2) (.e (.var 3) (.e (.var 4) (.e (.var 5) (.e (.var 6) .nil))))))) 7
 (.call 14 (.e (.var 7) (.e (.var 8) (.e (.var 9) (.e (.var 10) (.e (.var 11) (.e (.var 12) (.e (.var 13) .nil))))))) 7
 (.call 13 (.e (.var 14) (.e (.var 15) (.e (.var 16) (.e (.var 17) (.e (.var 18) (.e (.var 19) (.e (.var 20) (.e (.var 21) (.e (.var 22) (.e (.var 23) (.e (.var 24) (.e (.var 25) (.e (.var 26) (.e (.var 27) .nil)))))))))))))) 8
 (.call 14 (.e (.var 0) (.e (.var 1) (.e (.var 2) (.e (.var 3) (.e (.var 4) (.e (.var 5) (.e (.var 6) .nil))))))) 7
 (.call 14 (.e (.var 7) (.e (.var 8) (.e (.var 9) (.e (.var 10) (.e (.var 11) (.e (.var 12) (.e (.var 13) .nil))))))) 7
 (.call 15 (.e (.var 36) (.e (.var 37) (.e (.var 38) (.e (.var 39) (.e (.var 40) (.e (.var 41) (.e (.var 42) (.e (.var 43) (.e (.var 44) (.e (.var 45) (.e (.var 46) (.e (.var 47) (.e (.var 48) (.e (.var 49) .nil)))))))))))))) 8
 (.call 16 (.e (.var 50) (.e (.var 51) (.e (.var 52) (.e (.var 53) (.e (.var 54) (.e (.var 55) (.e (.var 56) (.e (.var 28) (.e (.var 29) (.e (.var 30) (.e (.var 31) (.e (.var 32) (.e (.var 33) (.e (.var 34) .nil)))))))))))))) 1
 (.ite (.eq (.var 58) (.lit 1))
  (.ite (.not (.eq (.var 57) (.var 35)))
   (.fin (.e (.lit 0) .nil))
   (.fin (.e (.lit 1) .nil)))
  (.fin (.e (.lit 0) .nil))))))))))
theorem v3 : vcOfI ⟨c3, []⟩ iv3 250 Try.f3 s3 = t3 := by kernel_rfl
set_option linter.unusedVariables false in
def p3 (T : Tab) (I : Nat → List Int → List Int → Prop) (M : Nat → List Int → List Int → Nat) (pre : Nat → List Int → Prop) (post : List Int → Prop) (v0 v1 v2 v3 v4 v5 v6 v7 v8 v9 v10 v11 v12 v13 : Int) : Prop :=
 ∀ v14 v15 v16 v17 v18 v19 v20 : Int, [v14, v15, v16, v17, v18, v19, v20] = T.out 14 7 [v0, v1, v2, v3, v4, v5, v6] →
 ∀ v21 v22 v23 v24 v25 v26 v27 : Int, [v21, v22, v23, v24, v25, v26, v27] = T.out 14 7 [v7, v8, v9, v10, v11, v12, v13] →
 ∀ v28 v29 v30 v31 v32 v33 v34 v35 : Int, [v28, v29, v30, v31, v32, v33, v34, v35] = T.out 13 8 [v14, v15, v16, v17, v18, v19, v20, v21, v22, v23, v24, v25, v26, v27] →
 ∀ v36 v37 v38 v39 v40 v41 v42 : Int, [v36, v37, v38, v39, v40, v41, v42] = T.out 14 7 [v0, v1, v2, v3, v4, v5, v6] →
 ∀ v43 v44 v45 v46 v47 v48 v49 : Int, [v43, v44, v45, v46, v47, v48, v49] = T.out 14 7 [v7, v8, v9, v10, v11, v12, v13] →
 ∀ v50 v51 v52 v53 v54 v55 v56 v57 : Int, [v50, v51, v52, v53, v54, v55, v56, v57] = T.out 15 8 [v36, v37, v38, v39, v40, v41, v42, v43, v44, v45, v46, v47, v48, v49] →
 ∀ v58 : Int, [v58] = T.out 16 1 [v50, v51, v52, v53, v54, v55, v56, v28, v29, v30, v31, v32, v33, v34] →
 ((decide ((v58 : Int) = 1) = true →
  (((!decide ((v57 : Int) = v35)) = true →
   post [0]) ∧ ((!decide ((v57 : Int) = v35)) = false →
   post [1]))) ∧ (decide ((v58 : Int) = 1) = false →
  post [0]))
theorem q3 (T : Tab) (I : Nat → List Int → List Int → Prop) (M : Nat → List Int → List Int → Nat) (pre : Nat → List Int → Prop) (post : List Int → Prop) (v0 v1 v2 v3 v4 v5 v6 v7 v8 v9 v10 v11 v12 v13 : Int) : t3.plain T (presL pre I M) post ⟨[v0, v1, v2, v3, v4, v5, v6, v7, v8, v9, v10, v11, v12, v13], []⟩ = p3 T I M pre post v0 v1 v2 v3 v4 v5 v6 v7 v8 v9 v10 v11 v12 v13 := by kernel_rfl
theorem k3 (T : Tab) (I : Nat → List Int → List Int → Prop) (M : Nat → List Int → List Int → Nat) (pre : Nat → List Int → Prop) (hs : SubSig T c3.sigs) (ht : Tot pre c3.sigs) (hg : T.sig 3 = some s3) (hC : CtAll Try.prog T.fns (pres pre) c3.sigs)
    (h : ∀ (v0 v1 v2 v3 v4 v5 v6 v7 v8 v9 v10 v11 v12 v13 : Int), (0 ≤ v0 ∧ v0 ≤ 1) → (0 ≤ v1 ∧ v1 ≤ 4294967295) → (0 ≤ v2 ∧ v2 ≤ 4294967295) → (0 ≤ v3 ∧ v3 ≤ 4294967295) → (0 ≤ v4 ∧ v4 ≤ 4294967295) → (0 ≤ v5 ∧ v5 ≤ 4294967295) → (0 ≤ v6 ∧ v6 ≤ 4294967295) → (0 ≤ v7 ∧ v7 ≤ 1) → (0 ≤ v8 ∧ v8 ≤ 4294967295) → (0 ≤ v9 ∧ v9 ≤ 4294967295) → (0 ≤ v10 ∧ v10 ≤ 4294967295) → (0 ≤ v11 ∧ v11 ≤ 4294967295) → (0 ≤ v12 ∧ v12 ≤ 4294967295) → (0 ≤ v13 ∧ v13 ≤ 4294967295) → pre 3 [v0, v1, v2, v3, v4, v5, v6, v7, v8, v9, v10, v11, v12, v13] → p3 T I M pre (fun ys => ys = T.fn 3 [v0, v1, v2, v3, v4, v5, v6, v7, v8, v9, v10, v11, v12, v13]) v0 v1 v2 v3 v4 v5 v6 v7 v8 v9 v10 v11 v12 v13) : CT Try.prog T.fns (pres pre) 3 s3 :=
  T.ctq (F := ⟨c3, []⟩) (fuel := 250) v3 Try.checked.mixed hs ht hg hC Try.func3 I M (fun _ h _ => h) fun xs hx hp => by
    match xs, hx, hp with
    | [v0, v1, v2, v3, v4, v5, v6, v7, v8, v9, v10, v11, v12, v13], hx, hp => rw [q3]; exact h v0 v1 v2 v3 v4 v5 v6 v7 v8 v9 v10 v11 v12 v13 hx.1 hx.2.1 hx.2.2.1 hx.2.2.2.1 hx.2.2.2.2.1 hx.2.2.2.2.2.1 hx.2.2.2.2.2.2.1 hx.2.2.2.2.2.2.2.1 hx.2.2.2.2.2.2.2.2.1 hx.2.2.2.2.2.2.2.2.2.1 hx.2.2.2.2.2.2.2.2.2.2.1 hx.2.2.2.2.2.2.2.2.2.2.2.1 hx.2.2.2.2.2.2.2.2.2.2.2.2.1 hx.2.2.2.2.2.2.2.2.2.2.2.2.2.1 hp

/-- loop.example/g01242/laws.FnExactShiftUp -/
noncomputable def c4 : Cfg := ⟨Try.prog, [(14, s14), (17, s17), (18, s18), (16, s16)]⟩
def iv4 : List Iv := [⟨0, 1⟩, ⟨0, 4294967295⟩, ⟨0, 4294967295⟩, ⟨0, 4294967295⟩, ⟨0, 4294967295⟩, ⟨0, 4294967295⟩, ⟨0, 4294967295⟩, ⟨(-9223372036854775808), 9223372036854775807⟩]
def t4 : VC :=
 (.call 14 (.e (.var 0) (.e (.var 1) (.e (.var 2) (.e (.var 3) (.e (.var 4) (.e (.var 5) (.e (.var 6) .nil))))))) 7
 (.call 17 (.e (.var 8) (.e (.var 9) (.e (.var 10) (.e (.var 11) (.e (.var 12) (.e (.var 13) (.e (.var 14) (.e (.var 7) .nil)))))))) 8
 (.call 14 (.e (.var 0) (.e (.var 1) (.e (.var 2) (.e (.var 3) (.e (.var 4) (.e (.var 5) (.e (.var 6) .nil))))))) 7
 (.call 18 (.e (.var 23) (.e (.var 24) (.e (.var 25) (.e (.var 26) (.e (.var 27) (.e (.var 28) (.e (.var 29) (.e (.var 7) .nil)))))))) 8
 (.call 16 (.e (.var 30) (.e (.var 31) (.e (.var 32) (.e (.var 33) (.e (.var 34) (.e (.var 35) (.e (.var 36) (.e (.var 15) (.e (.var 16) (.e (.var 17) (.e (.var 18) (.e (.var 19) (.e (.var 20) (.e (.var 21) .nil)))))))))))))) 1
 (.ite (.eq (.var 38) (.lit 1))
  (.ite (.not (.eq (.var 37) (.var 22)))
   (.fin (.e (.lit 0) .nil))
   (.fin (.e (.lit 1) .nil)))
  (.fin (.e (.lit 0) .nil))))))))
theorem v4 : vcOfI ⟨c4, []⟩ iv4 250 Try.f4 s4 = t4 := by kernel_rfl
set_option linter.unusedVariables false in
def p4 (T : Tab) (I : Nat → List Int → List Int → Prop) (M : Nat → List Int → List Int → Nat) (pre : Nat → List Int → Prop) (post : List Int → Prop) (v0 v1 v2 v3 v4 v5 v6 v7 : Int) : Prop :=
 ∀ v8 v9 v10 v11 v12 v13 v14 : Int, [v8, v9, v10, v11, v12, v13, v14] = T.out 14 7 [v0, v1, v2, v3, v4, v5, v6] →
 ∀ v15 v16 v17 v18 v19 v20 v21 v22 : Int, [v15, v16, v17, v18, v19, v20, v21, v22] = T.out 17 8 [v8, v9, v10, v11, v12, v13, v14, v7] →
 ∀ v23 v24 v25 v26 v27 v28 v29 : Int, [v23, v24, v25, v26, v27, v28, v29] = T.out 14 7 [v0, v1, v2, v3, v4, v5, v6] →
 ∀ v30 v31 v32 v33 v34 v35 v36 v37 : Int, [v30, v31, v32, v33, v34, v35, v36, v37] = T.out 18 8 [v23, v24, v25, v26, v27, v28, v29, v7] →
 ∀ v38 : Int, [v38] = T.out 16 1 [v30, v31, v32, v33, v34, v35, v36, v15, v16, v17, v18, v19, v20, v21] →
 ((decide ((v38 : Int) = 1) = true →
  (((!decide ((v37 : Int) = v22)) = true →
   post [0]) ∧ ((!decide ((v37 : Int) = v22)) = false →
   post [1]))) ∧ (decide ((v38 : Int) = 1) = false →
  post [0]))
theorem q4 (T : Tab) (I : Nat → List Int → List Int → Prop) (M : Nat → List Int → List Int → Nat) (pre : Nat → List Int → Prop) (post : List Int → Prop) (v0 v1 v2 v3 v4 v5 v6 v7 : Int) : t4.plain T (presL pre I M) post ⟨[v0, v1, v2, v3, v4, v5, v6, v7], []⟩ = p4 T I M pre post v0 v1 v2 v3 v4 v5 v6 v7 := by kernel_rfl
theorem k4 (T : Tab) (I : Nat → List Int → List Int → Prop) (M : Nat → List Int → List Int → Nat) (pre : Nat → List Int → Prop) (hs : SubSig T c4.sigs) (ht : Tot pre c4.sigs) (hg : T.sig 4 = some s4) (hC : CtAll Try.prog T.fns (pres pre) c4.sigs)
    (h : ∀ (v0 v1 v2 v3 v4 v5 v6 v7 : Int), (0 ≤ v0 ∧ v0 ≤ 1) → (0 ≤ v1 ∧ v1 ≤ 4294967295) → (0 ≤ v2 ∧ v2 ≤ 4294967295) → (0 ≤ v3 ∧ v3 ≤ 4294967295) → (0 ≤ v4 ∧ v4 ≤ 4294967295) → (0 ≤ v5 ∧ v5 ≤ 4294967295) → (0 ≤ v6 ∧ v6 ≤ 4294967295) → ((-9223372036854775808) ≤ v7 ∧ v7 ≤ 9223372036854775807) → pre 4 [v0, v1, v2, v3, v4, v5, v6, v7] → p4 T I M pre (fun ys => ys = T.fn 4 [v0, v1, v2, v3, v4, v5, v6, v7]) v0 v1 v2 v3 v4 v5 v6 v7) : CT Try.prog T.fns (pres pre) 4 s4 :=
  T.ctq (F := ⟨c4, []⟩) (fuel := 250) v4 Try.checked.mixed hs ht hg hC Try.func4 I M (fun _ h _ => h) fun xs hx hp => by
    match xs, hx, hp with
    | [v0, v1, v2, v3, v4, v5, v6, v7], hx, hp => rw [q4]; exact h v0 v1 v2 v3 v4 v5 v6 v7 hx.1 hx.2.1 hx.2.2.1 hx.2.2.2.1 hx.2.2.2.2.1 hx.2.2.2.2.2.1 hx.2.2.2.2.2.2.1 hx.2.2.2.2.2.2.2.1 hp

/-- loop.example/g01242/laws.FnExactShiftNear -/
noncomputable def c5 : Cfg := ⟨Try.prog, [(14, s14), (19, s19), (20, s20), (16, s16)]⟩
def iv5 : List Iv := [⟨0, 1⟩, ⟨0, 4294967295⟩, ⟨0, 4294967295⟩, ⟨0, 4294967295⟩, ⟨0, 4294967295⟩, ⟨0, 4294967295⟩, ⟨0, 4294967295⟩, ⟨(-9223372036854775808), 9223372036854775807⟩]
def t5 : VC :=
 (.call 14 (.e (.var 0) (.e (.var 1) (.e (.var 2) (.e (.var 3) (.e (.var 4) (.e (.var 5) (.e (.var 6) .nil))))))) 7
 (.call 19 (.e (.var 8) (.e (.var 9) (.e (.var 10) (.e (.var 11) (.e (.var 12) (.e (.var 13) (.e (.var 14) (.e (.var 7) .nil)))))))) 8
 (.call 14 (.e (.var 0) (.e (.var 1) (.e (.var 2) (.e (.var 3) (.e (.var 4) (.e (.var 5) (.e (.var 6) .nil))))))) 7
 (.call 20 (.e (.var 23) (.e (.var 24) (.e (.var 25) (.e (.var 26) (.e (.var 27) (.e (.var 28) (.e (.var 29) (.e (.var 7) .nil)))))))) 8
 (.call 16 (.e (.var 30) (.e (.var 31) (.e (.var 32) (.e (.var 33) (.e (.var 34) (.e (.var 35) (.e (.var 36) (.e (.var 15) (.e (.var 16) (.e (.var 17) (.e (.var 18) (.e (.var 19) (.e (.var 20) (.e (.var 21) .nil)))))))))))))) 1
 (.ite (.eq (.var 38) (.lit 1))
  (.ite (.not (.eq (.var 37) (.var 22)))
   (.fin (.e (.lit 0) .nil))
   (.fin (.e (.lit 1) .nil)))
  (.fin (.e (.lit 0) .nil))))))))
theorem v5 : vcOfI ⟨c5, []⟩ iv5 250 Try.f5 s5 = t5 := by kernel_rfl
set_option linter.unusedVariables false in
def p5 (T : Tab) (I : Nat → List Int → List Int → Prop) (M : Nat → List Int → List Int → Nat) (pre : Nat → List Int → Prop) (post : List Int → Prop) (v0 v1 v2 v3 v4 v5 v6 v7 : Int) : Prop :=
 ∀ v8 v9 v10 v11 v12 v13 v14 : Int, [v8, v9, v10, v11, v12, v13, v14] = T.out 14 7 [v0, v1, v2, v3, v4, v5, v6] →
 ∀ v15 v16 v17 v18 v19 v20 v21 v22 : Int, [v15, v16, v17, v18, v19, v20, v21, v22] = T.out 19 8 [v8, v9, v10, v11, v12, v13, v14, v7] →
 ∀ v23 v24 v25 v26 v27 v28 v29 : Int, [v23, v24, v25, v26, v27, v28, v29] = T.out 14 7 [v0, v1, v2, v3, v4, v5, v6] →
 ∀ v30 v31 v32 v33 v34 v35 v36 v37 : Int, [v30, v31, v32, v33, v34, v35, v36, v37] = T.out 20 8 [v23, v24, v25, v26, v27, v28, v29, v7] →
 ∀ v38 : Int, [v38] = T.out 16 1 [v30, v31, v32, v33, v34, v35, v36, v15, v16, v17, v18, v19, v20, v21] →
 ((decide ((v38 : Int) = 1) = true →
  (((!decide ((v37 : Int) = v22)) = true →
   post [0]) ∧ ((!decide ((v37 : Int) = v22)) = false →
   post [1]))) ∧ (decide ((v38 : Int) = 1) = false →
  post [0]))
theorem q5 (T : Tab) (I : Nat → List Int → List Int → Prop) (M : Nat → List Int → List Int → Nat) (pre : Nat → List Int → Prop) (post : List Int → Prop) (v0 v1 v2 v3 v4 v5 v6 v7 : Int) : t5.plain T (presL pre I M) post ⟨[v0, v1, v2, v3, v4, v5, v6, v7], []⟩ = p5 T I M pre post v0 v1 v2 v3 v4 v5 v6 v7 := by kernel_rfl
theorem k5 (T : Tab) (I : Nat → List Int → List Int → Prop) (M : Nat → List Int → List Int → Nat) (pre : Nat → List Int → Prop) (hs : SubSig T c5.sigs) (ht : Tot pre c5.sigs) (hg : T.sig 5 = some s5) (hC : CtAll Try.prog T.fns (pres pre) c5.sigs)
    (h : ∀ (v0 v1 v2 v3 v4 v5 v6 v7 : Int), (0 ≤ v0 ∧ v0 ≤ 1) → (0 ≤ v1 ∧ v1 ≤ 4294967295) → (0 ≤ v2 ∧ v2 ≤ 4294967295) → (0 ≤ v3 ∧ v3 ≤ 4294967295) → (0 ≤ v4 ∧ v4 ≤ 4294967295) → (0 ≤ v5 ∧ v5 ≤ 4294967295) → (0 ≤ v6 ∧ v6 ≤ 4294967295) → ((-9223372036854775808) ≤ v7 ∧ v7 ≤ 9223372036854775807) → pre 5 [v0, v1, v2, v3, v4, v5, v6, v7] → p5 T I M pre (fun ys => ys = T.fn 5 [v0, v1, v2, v3, v4, v5, v6, v7]) v0 v1 v2 v3 v4 v5 v6 v7) : CT Try.prog T.fns (pres pre) 5 s5 :=
  T.ctq (F := ⟨c5, []⟩) (fuel := 250) v5 Try.checked.mixed hs ht hg hC Try.func5 I M (fun _ h _ => h) fun xs hx hp => by
    match xs, hx, hp with
    | [v0, v1, v2, v3, v4, v5, v6, v7], hx, hp => rw [q5]; exact h v0 v1 v2 v3 v4 v5 v6 v7 hx.1 hx.2.1 hx.2.2.1 hx.2.2.2.1 hx.2.2.2.2.1 hx.2.2.2.2.2.1 hx.2.2.2.2.2.2.1 hx.2.2.2.2.2.2.2.1 hp

/-- loop.example/g01242/laws.FnExactPowerWide -/
noncomputable def c9 : Cfg := ⟨Try.prog, [(14, s14), (27, s27), (28, s28), (16, s16)]⟩
def iv9 : List Iv := [⟨0, 1⟩, ⟨0, 4294967295⟩, ⟨0, 4294967295⟩, ⟨0, 4294967295⟩, ⟨0, 4294967295⟩, ⟨0, 4294967295⟩, ⟨0, 4294967295⟩, ⟨(-9223372036854775808), 9223372036854775807⟩]
def t9 : VC :=
 (.call 14 (.e (.var 0) (.e (.var 1) (.e (.var 2) (.e (.var 3) (.e (.var 4) (.e (.var 5) (.e (.var 6) .nil))))))) 7
 (.call 27 (.e (.var 8) (.e (.var 9) (.e (.var 10) (.e (.var 11) (.e (.var 12) (.e (.var 13) (.e (.var 14) (.e (.var 7) .nil)))))))) 8
 (.call 14 (.e (.var 0) (.e (.var 1) (.e (.var 2) (.e (.var 3) (.e (.var 4) (.e (.var 5) (.e (.var 6) .nil))))))) 7
 (.call 28 (.e (.var 23) (.e (.var 24) (.e (.var 25) (.e (.var 26) (.e (.var 27) (.e (.var 28) (.e (.var 29) (.e (.var 7) .nil)))))))) 8
 (.call 16 (.e (.var 30) (.e (.var 31) (.e (.var 32) (.e (.var 33) (.e (.var 34) (.e (.var 35) (.e (.var 36) (.e (.var 15) (.e (.var 16) (.e (.var 17) (.e (.var 18) (.e (.var 19) (.e (.var 20) (.e (.var 21) .nil)))))))))))))) 1
 (.ite (.eq (.var 38) (.lit 1))
  (.ite (.not (.eq (.var 37) (.var 22)))
   (.fin (.e (.lit 0) .nil))
   (.fin (.e (.lit 1) .nil)))
  (.fin (.e (.lit 0) .nil))))))))
theorem v9 : vcOfI ⟨c9, []⟩ iv9 250 Try.f9 s9 = t9 := by kernel_rfl
set_option linter.unusedVariables false in
def p9 (T : Tab) (I : Nat → List Int → List Int → Prop) (M : Nat → List Int → List Int → Nat) (pre : Nat → List Int → Prop) (post : List Int → Prop) (v0 v1 v2 v3 v4 v5 v6 v7 : Int) : Prop :=
 ∀ v8 v9 v10 v11 v12 v13 v14 : Int, [v8, v9, v10, v11, v12, v13, v14] = T.out 14 7 [v0, v1, v2, v3, v4, v5, v6] →
 ∀ v15 v16 v17 v18 v19 v20 v21 v22 : Int, [v15, v16, v17, v18, v19, v20, v21, v22] = T.out 27 8 [v8, v9, v10, v11, v12, v13, v14, v7] →
 ∀ v23 v24 v25 v26 v27 v28 v29 : Int, [v23, v24, v25, v26, v27, v28, v29] = T.out 14 7 [v0, v1, v2, v3, v4, v5, v6] →
 ∀ v30 v31 v32 v33 v34 v35 v36 v37 : Int, [v30, v31, v32, v33, v34, v35, v36, v37] = T.out 28 8 [v23, v24, v25, v26, v27, v28, v29, v7] →
 ∀ v38 : Int, [v38] = T.out 16 1 [v30, v31, v32, v33, v34, v35, v36, v15, v16, v17, v18, v19, v20, v21] →
 ((decide ((v38 : Int) = 1) = true →
  (((!decide ((v37 : Int) = v22)) = true →
   post [0]) ∧ ((!decide ((v37 : Int) = v22)) = false →
   post [1]))) ∧ (decide ((v38 : Int) = 1) = false →
  post [0]))
theorem q9 (T : Tab) (I : Nat → List Int → List Int → Prop) (M : Nat → List Int → List Int → Nat) (pre : Nat → List Int → Prop) (post : List Int → Prop) (v0 v1 v2 v3 v4 v5 v6 v7 : Int) : t9.plain T (presL pre I M) post ⟨[v0, v1, v2, v3, v4, v5, v6, v7], []⟩ = p9 T I M pre post v0 v1 v2 v3 v4 v5 v6 v7 := by kernel_rfl
theorem k9 (T : Tab) (I : Nat → List Int → List Int → Prop) (M : Nat → List Int → List Int → Nat) (pre : Nat → List Int → Prop) (hs : SubSig T c9.sigs) (ht : Tot pre c9.sigs) (hg : T.sig 9 = some s9) (hC : CtAll Try.prog T.fns (pres pre) c9.sigs)
    (h : ∀ (v0 v1 v2 v3 v4 v5 v6 v7 : Int), (0 ≤ v0 ∧ v0 ≤ 1) → (0 ≤ v1 ∧ v1 ≤ 4294967295) → (0 ≤ v2 ∧ v2 ≤ 4294967295) → (0 ≤ v3 ∧ v3 ≤ 4294967295) → (0 ≤ v4 ∧ v4 ≤ 4294967295) → (0 ≤ v5 ∧ v5 ≤ 4294967295) → (0 ≤ v6 ∧ v6 ≤ 4294967295) → ((-9223372036854775808) ≤ v7 ∧ v7 ≤ 9223372036854775807) → pre 9 [v0, v1, v2, v3, v4, v5, v6, v7] → p9 T I M pre (fun ys => ys = T.fn 9 [v0, v1, v2, v3, v4, v5, v6, v7]) v0 v1 v2 v3 v4 v5 v6 v7) : CT Try.prog T.fns (pres pre) 9 s9 :=
  T.ctq (F := ⟨c9, []⟩) (fuel := 250) v9 Try.checked.mixed hs ht hg hC Try.func9 I M (fun _ h _ => h) fun xs hx hp => by
    match xs, hx, hp with
    | [v0, v1, v2, v3, v4, v5, v6, v7], hx, hp => rw [q9]; exact h v0 v1 v2 v3 v4 v5 v6 v7 hx.1 hx.2.1 hx.2.2.1 hx.2.2.2.1 hx.2.2.2.2.1 hx.2.2.2.2.2.1 hx.2.2.2.2.2.2.1 hx.2.2.2.2.2.2.2.1 hp

/-- loop.example/g01242/laws.toUint32A6 -/
noncomputable def c37 : Cfg := ⟨Try.prog, []⟩
def iv37 : List Iv := [⟨0, 4294967295⟩, ⟨0, 4294967295⟩, ⟨0, 4294967295⟩, ⟨0, 4294967295⟩, ⟨0, 4294967295⟩, ⟨0, 4294967295⟩]
def t37 : VC :=
 (.fin (.e (.var 0) (.e (.var 1) (.e (.var 2) (.e (.var 3) (.e (.var 4) (.e (.var 5) .nil)))))))
theorem v37 : vcOfI ⟨c37, []⟩ iv37 250 Try.f37 s37 = t37 := by kernel_rfl
set_option linter.unusedVariables false in
def p37 (T : Tab) (I : Nat → List Int → List Int → Prop) (M : Nat → List Int → List Int → Nat) (pre : Nat → List Int → Prop) (post : List Int → Prop) (v0 v1 v2 v3 v4 v5 : Int) : Prop :=
 post [v0, v1, v2, v3, v4, v5]
theorem q37 (T : Tab) (I : Nat → List Int → List Int → Prop) (M : Nat → List Int → List Int → Nat) (pre : Nat → List Int → Prop) (post : List Int → Prop) (v0 v1 v2 v3 v4 v5 : Int) : t37.plain T (presL pre I M) post ⟨[v0, v1, v2, v3, v4, v5], []⟩ = p37 T I M pre post v0 v1 v2 v3 v4 v5 := by kernel_rfl
theorem k37 (T : Tab) (I : Nat → List Int → List Int → Prop) (M : Nat → List Int → List Int → Nat) (pre : Nat → List Int → Prop) (hs : SubSig T c37.sigs) (ht : Tot pre c37.sigs) (hg : T.sig 37 = some s37) (hC : CtAll Try.prog T.fns (pres pre) c37.sigs)
    (h : ∀ (v0 v1 v2 v3 v4 v5 : Int), (0 ≤ v0 ∧ v0 ≤ 4294967295) → (0 ≤ v1 ∧ v1 ≤ 4294967295) → (0 ≤ v2 ∧ v2 ≤ 4294967295) → (0 ≤ v3 ∧ v3 ≤ 4294967295) → (0 ≤ v4 ∧ v4 ≤ 4294967295) → (0 ≤ v5 ∧ v5 ≤ 4294967295) → pre 37 [v0, v1, v2, v3, v4, v5] → p37 T I M pre (fun ys => ys = T.fn 37 [v0, v1, v2, v3, v4, v5]) v0 v1 v2 v3 v4 v5) : CT Try.prog T.fns (pres pre) 37 s37 :=
  T.ctq (F := ⟨c37, []⟩) (fuel := 250) v37 Try.checked.mixed hs ht hg hC Try.func37 I M (fun _ h _ => h) fun xs hx hp => by
    match xs, hx, hp with
    | [v0, v1, v2, v3, v4, v5], hx, hp => rw [q37]; exact h v0 v1 v2 v3 v4 v5 hx.1 hx.2.1 hx.2.2.1 hx.2.2.2.1 hx.2.2.2.2.1 hx.2.2.2.2.2.1 hp

/-- loop.example/g01242/laws.toWide -/
noncomputable def c14 : Cfg := ⟨Try.prog, [(37, s37)]⟩
def iv14 : List Iv := [⟨0, 1⟩, ⟨0, 4294967295⟩, ⟨0, 4294967295⟩, ⟨0, 4294967295⟩, ⟨0, 4294967295⟩, ⟨0, 4294967295⟩, ⟨0, 4294967295⟩]
def t14 : VC :=
 (.call 37 (.e (.var 1) (.e (.var 2) (.e (.var 3) (.e (.var 4) (.e (.var 5) (.e (.var 6) .nil)))))) 6
 (.fin (.e (.var 0) (.e (.var 7) (.e (.var 8) (.e (.var 9) (.e (.var 10) (.e (.var 11) (.e (.var 12) .nil)))))))))
theorem v14 : vcOfI ⟨c14, []⟩ iv14 250 Try.f14 s14 = t14 := by kernel_rfl
set_option linter.unusedVariables false in
def p14 (T : Tab) (I : Nat → List Int → List Int → Prop) (M : Nat → List Int → List Int → Nat) (pre : Nat → List Int → Prop) (post : List Int → Prop) (v0 v1 v2 v3 v4 v5 v6 : Int) : Prop :=
 ∀ v7 v8 v9 v10 v11 v12 : Int, [v7, v8, v9, v10, v11, v12] = T.out 37 6 [v1, v2, v3, v4, v5, v6] →
 post [v0, v7, v8, v9, v10, v11, v12]
theorem q14 (T : Tab) (I : Nat → List Int → List Int → Prop) (M : Nat → List Int → List Int → Nat) (pre : Nat → List Int → Prop) (post : List Int → Prop) (v0 v1 v2 v3 v4 v5 v6 : Int) : t14.plain T (presL pre I M) post ⟨[v0, v1, v2, v3, v4, v5, v6], []⟩ = p14 T I M pre post v0 v1 v2 v3 v4 v5 v6 := by kernel_rfl
theorem k14 (T : Tab) (I : Nat → List Int → List Int → Prop) (M : Nat → List Int → List Int → Nat) (pre : Nat → List Int → Prop) (hs : SubSig T c14.sigs) (ht : Tot pre c14.sigs) (hg : T.sig 14 = some s14) (hC : CtAll Try.prog T.fns (pres pre) c14.sigs)
    (h : ∀ (v0 v1 v2 v3 v4 v5 v6 : Int), (0 ≤ v0 ∧ v0 ≤ 1) → (0 ≤ v1 ∧ v1 ≤ 4294967295) → (0 ≤ v2 ∧ v2 ≤ 4294967295) → (0 ≤ v3 ∧ v3 ≤ 4294967295) → (0 ≤ v4 ∧ v4 ≤ 4294967295) → (0 ≤ v5 ∧ v5 ≤ 4294967295) → (0 ≤ v6 ∧ v6 ≤ 4294967295) → pre 14 [v0, v1, v2, v3, v4, v5, v6] → p14 T I M pre (fun ys => ys = T.fn 14 [v0, v1, v2, v3, v4, v5, v6]) v0 v1 v2 v3 v4 v5 v6) : CT Try.prog T.fns (pres pre) 14 s14 :=
  T.ctq (F := ⟨c14, []⟩) (fuel := 250) v14 Try.checked.mixed hs ht hg hC Try.func14 I M (fun _ h _ => h) fun xs hx hp => by
    match xs, hx, hp with
    | [v0, v1, v2, v3, v4, v5, v6], hx, hp => rw [q14]; exact h v0 v1 v2 v3 v4 v5 v6 hx.1 hx.2.1 hx.2.2.1 hx.2.2.2.1 hx.2.2.2.2.1 hx.2.2.2.2.2.1 hx.2.2.2.2.2.2.1 hp

/-- loop.example/g01242/laws.eqWide -/
noncomputable def c16 : Cfg := ⟨Try.prog, [(41, s41)]⟩
def iv16 : List Iv := [⟨0, 1⟩, ⟨0, 4294967295⟩, ⟨0, 4294967295⟩, ⟨0, 4294967295⟩, ⟨0, 4294967295⟩, ⟨0, 4294967295⟩, ⟨0, 4294967295⟩, ⟨0, 1⟩, ⟨0, 4294967295⟩, ⟨0, 4294967295⟩, ⟨0, 4294967295⟩, ⟨0, 4294967295⟩, ⟨0, 4294967295⟩, ⟨0, 4294967295⟩]
def t16 : VC :=
 (.ite (.not (.beq (.eq (.var 0) (.lit 1)) (.eq (.var 7) (.lit 1))))
  (.fin (.e (.lit 0) .nil))
  (.call 41 (.e (.var 1) (.e (.var 2) (.e (.var 3) (.e (.var 4) (.e (.var 5) (.e (.var 6) (.e (.var 8) (.e (.var 9) (.e (.var 10) (.e (.var 11) (.e (.var 12) (.e (.var 13) .nil)))))))))))) 1
  (.ite (.not (.eq (.var 14) (.lit 1)))
   (.fin (.e (.lit 0) .nil))
   (.fin (.e (.lit 1) .nil)))))
theorem v16 : vcOfI ⟨c16, []⟩ iv16 250 Try.f16 s16 = t16 := by kernel_rfl
set_option linter.unusedVariables false in
def p16 (T : Tab) (I : Nat → List Int → List Int → Prop) (M : Nat → List Int → List Int → Nat) (pre : Nat → List Int → Prop) (post : List Int → Prop) (v0 v1 v2 v3 v4 v5 v6 v7 v8 v9 v10 v11 v12 v13 : Int) : Prop :=
 (((!(decide ((v0 : Int) = 1) == decide ((v7 : Int) = 1))) = true →
  post [0]) ∧ ((!(decide ((v0 : Int) = 1) == decide ((v7 : Int) = 1))) = false →
  ∀ v14 : Int, [v14] = T.out 41 1 [v1, v2, v3, v4, v5, v6, v8, v9, v10, v11, v12, v13] →
  (((!decide ((v14 : Int) = 1)) = true →
   post [0]) ∧ ((!decide ((v14 : Int) = 1)) = false →
   post [1]))))
theorem q16 (T : Tab) (I : Nat → List Int → List Int → Prop) (M : Nat → List Int → List Int → Nat) (pre : Nat → List Int → Prop) (post : List Int → Prop) (v0 v1 v2 v3 v4 v5 v6 v7 v8 v9 v10 v11 v12 v13 : Int) : t16.plain T (presL pre I M) post ⟨[v0, v1, v2, v3, v4, v5, v6, v7, v8, v9, v10, v11, v12, v13], []⟩ = p16 T I M pre post v0 v1 v2 v3 v4 v5 v6 v7 v8 v9 v10 v11 v12 v13 := by kernel_rfl
theorem k16 (T : Tab) (I : Nat → List Int → List Int → Prop) (M : Nat → List Int → List Int → Nat) (pre : Nat → List Int → Prop) (hs : SubSig T c16.sigs) (ht : Tot pre c16.sigs) (hg : T.sig 16 = some s16) (hC : CtAll Try.prog T.fns (pres pre) c16.sigs)
    (h : ∀ (v0 v1 v2 v3 v4 v5 v6 v7 v8 v9 v10 v11 v12 v13 : Int), (0 ≤ v0 ∧ v0 ≤ 1) → (0 ≤ v1 ∧ v1 ≤ 4294967295) → (0 ≤ v2 ∧ v2 ≤ 4294967295) → (0 ≤ v3 ∧ v3 ≤ 4294967295) → (0 ≤ v4 ∧ v4 ≤ 4294967295) → (0 ≤ v5 ∧ v5 ≤ 4294967295) → (0 ≤ v6 ∧ v6 ≤ 4294967295) → (0 ≤ v7 ∧ v7 ≤ 1) → (0 ≤ v8 ∧ v8 ≤ 4294967295) → (0 ≤ v9 ∧ v9 ≤ 4294967295) → (0 ≤ v10 ∧ v10 ≤ 4294967295) → (0 ≤ v11 ∧ v11 ≤ 4294967295) → (0 ≤ v12 ∧ v12 ≤ 4294967295) → (0 ≤ v13 ∧ v13 ≤ 4294967295) → pre 16 [v0, v1, v2, v3, v4, v5, v6, v7, v8, v9, v10, v11, v12, v13] → p16 T I M pre (fun ys => ys = T.fn 16 [v0, v1, v2, v3, v4, v5, v6, v7, v8, v9, v10, v11, v12, v13]) v0 v1 v2 v3 v4 v5 v6 v7 v8 v9 v10 v11 v12 v13) : CT Try.prog T.fns (pres pre) 16 s16 :=
  T.ctq (F := ⟨c16, []⟩) (fuel := 250) v16 Try.checked.mixed hs ht hg hC Try.func16 I M (fun _ h _ => h) fun xs hx hp => by
    match xs, hx, hp with
    | [v0, v1, v2, v3, v4, v5, v6, v7, v8, v9, v10, v11, v12, v13], hx, hp => rw [q16]; exact h v0 v1 v2 v3 v4 v5 v6 v7 v8 v9 v10 v11 v12 v13 hx.1 hx.2.1 hx.2.2.1 hx.2.2.2.1 hx.2.2.2.2.1 hx.2.2.2.2.2.1 hx.2.2.2.2.2.2.1 hx.2.2.2.2.2.2.2.1 hx.2.2.2.2.2.2.2.2.1 hx.2.2.2.2.2.2.2.2.2.1 hx.2.2.2.2.2.2.2.2.2.2.1 hx.2.2.2.2.2.2.2.2.2.2.2.1 hx.2.2.2.2.2.2.2.2.2.2.2.2.1 hx.2.2.2.2.2.2.2.2.2.2.2.2.2.1 hp

/-- loop.example/g01242/laws.eqUint32A6 -/
noncomputable def c41 : Cfg := ⟨Try.prog, []⟩
def iv41 : List Iv := [⟨0, 4294967295⟩, ⟨0, 4294967295⟩, ⟨0, 4294967295⟩, ⟨0, 4294967295⟩, ⟨0, 4294967295⟩, ⟨0, 4294967295⟩, ⟨0, 4294967295⟩, ⟨0, 4294967295⟩, ⟨0, 4294967295⟩, ⟨0, 4294967295⟩, ⟨0, 4294967295⟩, ⟨0, 4294967295⟩]
def t41 : VC :=
 (.ite (.not (.eq (.var 0) (.var 6)))
  (.fin (.e (.lit 0) .nil))
  (.ite (.not (.eq (.var 1) (.var 7)))
   (.fin (.e (.lit 0) .nil))
   (.ite (.not (.eq (.var 2) (.var 8)))
    (.fin (.e (.lit 0) .nil))
    (.ite (.not (.eq (.var 3) (.var 9)))
     (.fin (.e (.lit 0) .nil))
     (.ite (.not (.eq (.var 4) (.var 10)))
      (.fin (.e (.lit 0) .nil))
      (.ite (.not (.eq (.var 5) (.var 11)))
       (.fin (.e (.lit 0) .nil))
       (.fin (.e (.lit 1) .nil))))))))
theorem v41 : vcOfI ⟨c41, []⟩ iv41 250 Try.f41 s41 = t41 := by kernel_rfl
set_option linter.unusedVariables false in
def p41 (T : Tab) (I : Nat → List Int → List Int → Prop) (M : Nat → List Int → List Int → Nat) (pre : Nat → List Int → Prop) (post : List Int → Prop) (v0 v1 v2 v3 v4 v5 v6 v7 v8 v9 v10 v11 : Int) : Prop :=
 (((!decide ((v0 : Int) = v6)) = true →
  post [0]) ∧ ((!decide ((v0 : Int) = v6)) = false →
  (((!decide ((v1 : Int) = v7)) = true →
   post [0]) ∧ ((!decide ((v1 : Int) = v7)) = false →
   (((!decide ((v2 : Int) = v8)) = true →
    post [0]) ∧ ((!decide ((v2 : Int) = v8)) = false →
    (((!decide ((v3 : Int) = v9)) = true →
     post [0]) ∧ ((!decide ((v3 : Int) = v9)) = false →
     (((!decide ((v4 : Int) = v10)) = true →
      post [0]) ∧ ((!decide ((v4 : Int) = v10)) = false →
      (((!decide ((v5 : Int) = v11)) = true →
       post [0]) ∧ ((!decide ((v5 : Int) = v11)) = false →
       post [1]))))))))))))
theorem q41 (T : Tab) (I : Nat → List Int → List Int → Prop) (M : Nat → List Int → List Int → Nat) (pre : Nat → List Int → Prop) (post : List Int → Prop) (v0 v1 v2 v3 v4 v5 v6 v7 v8 v9 v10 v11 : Int) : t41.plain T (presL pre I M) post ⟨[v0, v1, v2, v3, v4, v5, v6, v7, v8, v9, v10, v11], []⟩ = p41 T I M pre post v0 v1 v2 v3 v4 v5 v6 v7 v8 v9 v10 v11 := by kernel_rfl
theorem k41 (T : Tab) (I : Nat → List Int → List Int → Prop) (M : Nat → List Int → List Int → Nat) (pre : Nat → List Int → Prop) (hs : SubSig T c41.sigs) (ht : Tot pre c41.sigs) (hg : T.sig 41 = some s41) (hC : CtAll Try.prog T.fns (pres pre) c41.sigs)
    (h : ∀ (v0 v1 v2 v3 v4 v5 v6 v7 v8 v9 v10 v11 : Int), (0 ≤ v0 ∧ v0 ≤ 4294967295) → (0 ≤ v1 ∧ v1 ≤ 4294967295) → (0 ≤ v2 ∧ v2 ≤ 4294967295) → (0 ≤ v3 ∧ v3 ≤ 4294967295) → (0 ≤ v4 ∧ v4 ≤ 4294967295) → (0 ≤ v5 ∧ v5 ≤ 4294967295) → (0 ≤ v6 ∧ v6 ≤ 4294967295) → (0 ≤ v7 ∧ v7 ≤ 4294967295) → (0 ≤ v8 ∧ v8 ≤ 4294967295) → (0 ≤ v9 ∧ v9 ≤ 4294967295) → (0 ≤ v10 ∧ v10 ≤ 4294967295) → (0 ≤ v11 ∧ v11 ≤ 4294967295) → pre 41 [v0, v1, v2, v3, v4, v5, v6, v7, v8, v9, v10, v11] → p41 T I M pre (fun ys => ys = T.fn 41 [v0, v1, v2, v3, v4, v5, v6, v7, v8, v9, v10, v11]) v0 v1 v2 v3 v4 v5 v6 v7 v8 v9 v10 v11) : CT Try.prog T.fns (pres pre) 41 s41 :=
  T.ctq (F := ⟨c41, []⟩) (fuel := 250) v41 Try.checked.mixed hs ht hg hC Try.func41 I M (fun _ h _ => h) fun xs hx hp => by
    match xs, hx, hp with
    | [v0, v1, v2, v3, v4, v5, v6, v7, v8, v9, v10, v11], hx, hp => rw [q41]; exact h v0 v1 v2 v3 v4 v5 v6 v7 v8 v9 v10 v11 hx.1 hx.2.1 hx.2.2.1 hx.2.2.2.1 hx.2.2.2.2.1 hx.2.2.2.2.2.1 hx.2.2.2.2.2.2.1 hx.2.2.2.2.2.2.2.1 hx.2.2.2.2.2.2.2.2.1 hx.2.2.2.2.2.2.2.2.2.1 hx.2.2.2.2.2.2.2.2.2.2.1 hx.2.2.2.2.2.2.2.2.2.2.2.1 hp

/-- loop.example/g01242/spec.l01Ok -/
noncomputable def c35 : Cfg := ⟨Try.prog, []⟩
def iv35 : List Iv := [⟨0, 1⟩, ⟨0, 4294967295⟩, ⟨0, 4294967295⟩, ⟨0, 4294967295⟩, ⟨0, 4294967295⟩, ⟨0, 4294967295⟩, ⟨0, 4294967295⟩]
def t35 : VC :=
 (.ite (.eq (.var 0) (.lit 1))
  (.bind (.ite (.not (.and (.eq (.var 1) (.lit 0)) (.and (.eq (.var 2) (.lit 0)) (.and (.eq (.var 3) (.lit 0)) (.and (.eq (.var 4) (.lit 0)) (.and (.eq (.var 5) (.lit 0)) (.eq (.var 6) (.lit 0)))))))) (.lit 1) (.lit 0))
  (.fin (.e (.var 7) .nil)))
  (.fin (.e (.lit 1) .nil)))
theorem v35 : vcOfI ⟨c35, []⟩ iv35 250 Try.f35 s35 = t35 := by kernel_rfl
set_option linter.unusedVariables false in
def p35 (T : Tab) (I : Nat → List Int → List Int → Prop) (M : Nat → List Int → List Int → Nat) (pre : Nat → List Int → Prop) (post : List Int → Prop) (v0 v1 v2 v3 v4 v5 v6 : Int) : Prop :=
 ((decide ((v0 : Int) = 1) = true →
  ∀ v7 : Int, v7 = (if (!(decide ((v1 : Int) = 0) && (decide ((v2 : Int) = 0) && (decide ((v3 : Int) = 0) && (decide ((v4 : Int) = 0) && (decide ((v5 : Int) = 0) && decide ((v6 : Int) = 0))))))) = true then 1 else 0) →
  post [v7]) ∧ (decide ((v0 : Int) = 1) = false →
  post [1]))
theorem q35 (T : Tab) (I : Nat → List Int → List Int → Prop) (M : Nat → List Int → List Int → Nat) (pre : Nat → List Int → Prop) (post : List Int → Prop) (v0 v1 v2 v3 v4 v5 v6 : Int) : t35.plain T (presL pre I M) post ⟨[v0, v1, v2, v3, v4, v5, v6], []⟩ = p35 T I M pre post v0 v1 v2 v3 v4 v5 v6 := by kernel_rfl
theorem k35 (T : Tab) (I : Nat → List Int → List Int → Prop) (M : Nat → List Int → List Int → Nat) (pre : Nat → List Int → Prop) (hs : SubSig T c35.sigs) (ht : Tot pre c35.sigs) (hg : T.sig 35 = some s35) (hC : CtAll Try.prog T.fns (pres pre) c35.sigs)
    (h : ∀ (v0 v1 v2 v3 v4 v5 v6 : Int), (0 ≤ v0 ∧ v0 ≤ 1) → (0 ≤ v1 ∧ v1 ≤ 4294967295) → (0 ≤ v2 ∧ v2 ≤ 4294967295) → (0 ≤ v3 ∧ v3 ≤ 4294967295) → (0 ≤ v4 ∧ v4 ≤ 4294967295) → (0 ≤ v5 ∧ v5 ≤ 4294967295) → (0 ≤ v6 ∧ v6 ≤ 4294967295) → pre 35 [v0, v1, v2, v3, v4, v5, v6] → p35 T I M pre (fun ys => ys = T.fn 35 [v0, v1, v2, v3, v4, v5, v6]) v0 v1 v2 v3 v4 v5 v6) : CT Try.prog T.fns (pres pre) 35 s35 :=
  T.ctq (F := ⟨c35, []⟩) (fuel := 250) v35 Try.checked.mixed hs ht hg hC Try.func35 I M (fun _ h _ => h) fun xs hx hp => by
    match xs, hx, hp with
    | [v0, v1, v2, v3, v4, v5, v6], hx, hp => rw [q35]; exact h v0 v1 v2 v3 v4 v5 v6 hx.1 hx.2.1 hx.2.2.1 hx.2.2.2.1 hx.2.2.2.2.1 hx.2.2.2.2.2.1 hx.2.2.2.2.2.2.1 hp

/-- loop.example/g01242/spec.l01Made -/
noncomputable def c64 : Cfg := ⟨Try.prog, [(62, s62)]⟩
def iv64 : List Iv := [⟨0, 1⟩, ⟨0, 4294967295⟩, ⟨0, 4294967295⟩, ⟨0, 4294967295⟩, ⟨0, 4294967295⟩, ⟨0, 4294967295⟩, ⟨0, 4294967295⟩]
def t64 : VC :=
 (.ite (.eq (.var 0) (.lit 1))
  (.call 62 (.e (.var 1) (.e (.var 2) (.e (.var 3) (.e (.var 4) (.e (.var 5) (.e (.var 6) .nil)))))) 1
  (.fin (.e (.ite (.not (.eq (.var 7) (.lit 1))) (.lit 1) (.lit 0)) (.e (.var 1) (.e (.var 2) (.e (.var 3) (.e (.var 4) (.e (.var 5) (.e (.var 6) .nil)))))))))
  (.fin (.e (.lit 0) (.e (.var 1) (.e (.var 2) (.e (.var 3) (.e (.var 4) (.e (.var 5) (.e (.var 6) .nil)))))))))
theorem v64 : vcOfI ⟨c64, []⟩ iv64 250 Try.f64 s64 = t64 := by kernel_rfl
set_option linter.unusedVariables false in
def p64 (T : Tab) (I : Nat → List Int → List Int → Prop) (M : Nat → List Int → List Int → Nat) (pre : Nat → List Int → Prop) (post : List Int → Prop) (v0 v1 v2 v3 v4 v5 v6 : Int) : Prop :=
 ((decide ((v0 : Int) = 1) = true →
  ∀ v7 : Int, [v7] = T.out 62 1 [v1, v2, v3, v4, v5, v6] →
  post [(if (!decide ((v7 : Int) = 1)) = true then 1 else 0), v1, v2, v3, v4, v5, v6]) ∧ (decide ((v0 : Int) = 1) = false →
  post [0, v1, v2, v3, v4, v5, v6]))
theorem q64 (T : Tab) (I : Nat → List Int → List Int → Prop) (M : Nat → List Int → List Int → Nat) (pre : Nat → List Int → Prop) (post : List Int → Prop) (v0 v1 v2 v3 v4 v5 v6 : Int) : t64.plain T (presL pre I M) post ⟨[v0, v1, v2, v3, v4, v5, v6], []⟩ = p64 T I M pre post v0 v1 v2 v3 v4 v5 v6 := by kernel_rfl
theorem k64 (T : Tab) (I : Nat → List Int → List Int → Prop) (M : Nat → List Int → List Int → Nat) (pre : Nat → List Int → Prop) (hs : SubSig T c64.sigs) (ht : Tot pre c64.sigs) (hg : T.sig 64 = some s64) (hC : CtAll Try.prog T.fns (pres pre) c64.sigs)
    (h : ∀ (v0 v1 v2 v3 v4 v5 v6 : Int), (0 ≤ v0 ∧ v0 ≤ 1) → (0 ≤ v1 ∧ v1 ≤ 4294967295) → (0 ≤ v2 ∧ v2 ≤ 4294967295) → (0 ≤ v3 ∧ v3 ≤ 4294967295) → (0 ≤ v4 ∧ v4 ≤ 4294967295) → (0 ≤ v5 ∧ v5 ≤ 4294967295) → (0 ≤ v6 ∧ v6 ≤ 4294967295) → pre 64 [v0, v1, v2, v3, v4, v5, v6] → p64 T I M pre (fun ys => ys = T.fn 64 [v0, v1, v2, v3, v4, v5, v6]) v0 v1 v2 v3 v4 v5 v6) : CT Try.prog T.fns (pres pre) 64 s64 :=
  T.ctq (F := ⟨c64, []⟩) (fuel := 250) v64 Try.checked.mixed hs ht hg hC Try.func64 I M (fun _ h _ => h) fun xs hx hp => by
    match xs, hx, hp with
    | [v0, v1, v2, v3, v4, v5, v6], hx, hp => rw [q64]; exact h v0 v1 v2 v3 v4 v5 v6 hx.1 hx.2.1 hx.2.2.1 hx.2.2.2.1 hx.2.2.2.2.1 hx.2.2.2.2.2.1 hx.2.2.2.2.2.2.1 hp

/-- loop.example/g01242/spec.l01Zero -/
noncomputable def c62 : Cfg := ⟨Try.prog, []⟩
def iv62 : List Iv := [⟨0, 4294967295⟩, ⟨0, 4294967295⟩, ⟨0, 4294967295⟩, ⟨0, 4294967295⟩, ⟨0, 4294967295⟩, ⟨0, 4294967295⟩]
def t62 : VC :=
 (.bind (.ite (.and (.eq (.var 0) (.lit 0)) (.and (.eq (.var 1) (.lit 0)) (.and (.eq (.var 2) (.lit 0)) (.and (.eq (.var 3) (.lit 0)) (.and (.eq (.var 4) (.lit 0)) (.eq (.var 5) (.lit 0))))))) (.lit 1) (.lit 0))
 (.fin (.e (.var 6) .nil)))
theorem v62 : vcOfI ⟨c62, []⟩ iv62 250 Try.f62 s62 = t62 := by kernel_rfl
set_option linter.unusedVariables false in
def p62 (T : Tab) (I : Nat → List Int → List Int → Prop) (M : Nat → List Int → List Int → Nat) (pre : Nat → List Int → Prop) (post : List Int → Prop) (v0 v1 v2 v3 v4 v5 : Int) : Prop :=
 ∀ v6 : Int, v6 = (if (decide ((v0 : Int) = 0) && (decide ((v1 : Int) = 0) && (decide ((v2 : Int) = 0) && (decide ((v3 : Int) = 0) && (decide ((v4 : Int) = 0) && decide ((v5 : Int) = 0)))))) = true then 1 else 0) →
 post [v6]
theorem q62 (T : Tab) (I : Nat → List Int → List Int → Prop) (M : Nat → List Int → List Int → Nat) (pre : Nat → List Int → Prop) (post : List Int → Prop) (v0 v1 v2 v3 v4 v5 : Int) : t62.plain T (presL pre I M) post ⟨[v0, v1, v2, v3, v4, v5], []⟩ = p62 T I M pre post v0 v1 v2 v3 v4 v5 := by kernel_rfl
theorem k62 (T : Tab) (I : Nat → List Int → List Int → Prop) (M : Nat → List Int → List Int → Nat) (pre : Nat → List Int → Prop) (hs : SubSig T c62.sigs) (ht : Tot pre c62.sigs) (hg : T.sig 62 = some s62) (hC : CtAll Try.prog T.fns (pres pre) c62.sigs)
    (h : ∀ (v0 v1 v2 v3 v4 v5 : Int), (0 ≤ v0 ∧ v0 ≤ 4294967295) → (0 ≤ v1 ∧ v1 ≤ 4294967295) → (0 ≤ v2 ∧ v2 ≤ 4294967295) → (0 ≤ v3 ∧ v3 ≤ 4294967295) → (0 ≤ v4 ∧ v4 ≤ 4294967295) → (0 ≤ v5 ∧ v5 ≤ 4294967295) → pre 62 [v0, v1, v2, v3, v4, v5] → p62 T I M pre (fun ys => ys = T.fn 62 [v0, v1, v2, v3, v4, v5]) v0 v1 v2 v3 v4 v5) : CT Try.prog T.fns (pres pre) 62 s62 :=
  T.ctq (F := ⟨c62, []⟩) (fuel := 250) v62 Try.checked.mixed hs ht hg hC Try.func62 I M (fun _ h _ => h) fun xs hx hp => by
    match xs, hx, hp with
    | [v0, v1, v2, v3, v4, v5], hx, hp => rw [q62]; exact h v0 v1 v2 v3 v4 v5 hx.1 hx.2.1 hx.2.2.1 hx.2.2.2.1 hx.2.2.2.2.1 hx.2.2.2.2.2.1 hp

/-- loop.example/g01242/spec.l01Of -/
noncomputable def c61 : Cfg := ⟨Try.prog, [(64, s64)]⟩
def iv61 : List Iv := [⟨(-9223372036854775808), 9223372036854775807⟩]
def t61 : VC :=
 (.bind (.wrap .u64 (.var 0))
 (.ite (.lt (.var 0) (.lit 0))
  (.bind (.wrap .u64 (.sub (.lit 0) (.var 1)))
  (.bind (.wrap .u32 (.var 2))
  (.bind (.div (.var 2) (.lit 4294967296))
  (.call 64 (.e (.lit 1) (.e (.var 3) (.e (.var 4) (.e (.lit 0) (.e (.lit 0) (.e (.lit 0) (.e (.lit 0) .nil))))))) 7
  (.fin (.e (.var 5) (.e (.var 6) (.e (.var 7) (.e (.var 8) (.e (.var 9) (.e (.var 10) (.e (.var 11) .nil))))))))))))
  (.bind (.wrap .u32 (.var 1))
  (.bind (.div (.var 1) (.lit 4294967296))
  (.call 64 (.e (.lit 0) (.e (.var 2) (.e (.var 3) (.e (.lit 0) (.e (.lit 0) (.e (.lit 0) (.e (.lit 0) .nil))))))) 7
  (.fin (.e (.var 4) (.e (.var 5) (.e (.var 6) (.e (.var 7) (.e (.var 8) (.e (.var 9) (.e (.var 10) .nil)))))))))))))
theorem v61 : vcOfI ⟨c61, []⟩ iv61 250 Try.f61 s61 = t61 := by kernel_rfl
set_option linter.unusedVariables false in
def p61 (T : Tab) (I : Nat → List Int → List Int → Prop) (M : Nat → List Int → List Int → Nat) (pre : Nat → List Int → Prop) (post : List Int → Prop) (v0 : Int) : Prop :=
 ∀ v1 : Int, v1 = (IntKind.wrap .u64 v0) →
 ((decide ((v0 : Int) < 0) = true →
  ∀ v2 : Int, v2 = (IntKind.wrap .u64 (0 - v1)) →
  ∀ v3 : Int, v3 = (IntKind.wrap .u32 v2) →
  ∀ v4 : Int, v4 = (v2 / 4294967296) →
  ∀ v5 v6 v7 v8 v9 v10 v11 : Int, [v5, v6, v7, v8, v9, v10, v11] = T.out 64 7 [1, v3, v4, 0, 0, 0, 0] →
  post [v5, v6, v7, v8, v9, v10, v11]) ∧ (decide ((v0 : Int) < 0) = false →
  ∀ v2 : Int, v2 = (IntKind.wrap .u32 v1) →
  ∀ v3 : Int, v3 = (v1 / 4294967296) →
  ∀ v4 v5 v6 v7 v8 v9 v10 : Int, [v4, v5, v6, v7, v8, v9, v10] = T.out 64 7 [0, v2, v3, 0, 0, 0, 0] →
  post [v4, v5, v6, v7, v8, v9, v10]))
theorem q61 (T : Tab) (I : Nat → List Int → List Int → Prop) (M : Nat → List Int → List Int → Nat) (pre : Nat → List Int → Prop) (post : List Int → Prop) (v0 : Int) : t61.plain T (presL pre I M) post ⟨[v0], []⟩ = p61 T I M pre post v0 := by kernel_rfl
theorem k61 (T : Tab) (I : Nat → List Int → List Int → Prop) (M : Nat → List Int → List Int → Nat) (pre : Nat → List Int → Prop) (hs : SubSig T c61.sigs) (ht : Tot pre c61.sigs) (hg : T.sig 61 = some s61) (hC : CtAll Try.prog T.fns (pres pre) c61.sigs)
    (h : ∀ (v0 : Int), ((-9223372036854775808) ≤ v0 ∧ v0 ≤ 9223372036854775807) → pre 61 [v0] → p61 T I M pre (fun ys => ys = T.fn 61 [v0]) v0) : CT Try.prog T.fns (pres pre) 61 s61 :=
  T.ctq (F := ⟨c61, []⟩) (fuel := 250) v61 Try.checked.mixed hs ht hg hC Try.func61 I M (fun _ h _ => h) fun xs hx hp => by
    match xs, hx, hp with
    | [v0], hx, hp => rw [q61]; exact h v0 hx.1 hp

/-- loop.example/g01242/spec.l01Shift -/
noncomputable def c42 : Cfg := ⟨Try.prog, [(73, s73)]⟩
def iv42 : List Iv := [⟨(-9223372036854775808), 9223372036854775807⟩]
def t42 : VC :=
 (.call 73 (.e (.var 0) (.e (.lit 0) (.e (.lit 191) .nil))) 1
 (.fin (.e (.var 1) .nil)))
theorem v42 : vcOfI ⟨c42, []⟩ iv42 250 Try.f42 s42 = t42 := by kernel_rfl
set_option linter.unusedVariables false in
def p42 (T : Tab) (I : Nat → List Int → List Int → Prop) (M : Nat → List Int → List Int → Nat) (pre : Nat → List Int → Prop) (post : List Int → Prop) (v0 : Int) : Prop :=
 ∀ v1 : Int, [v1] = T.out 73 1 [v0, 0, 191] →
 post [v1]
theorem q42 (T : Tab) (I : Nat → List Int → List Int → Prop) (M : Nat → List Int → List Int → Nat) (pre : Nat → List Int → Prop) (post : List Int → Prop) (v0 : Int) : t42.plain T (presL pre I M) post ⟨[v0], []⟩ = p42 T I M pre post v0 := by kernel_rfl
theorem k42 (T : Tab) (I : Nat → List Int → List Int → Prop) (M : Nat → List Int → List Int → Nat) (pre : Nat → List Int → Prop) (hs : SubSig T c42.sigs) (ht : Tot pre c42.sigs) (hg : T.sig 42 = some s42) (hC : CtAll Try.prog T.fns (pres pre) c42.sigs)
    (h : ∀ (v0 : Int), ((-9223372036854775808) ≤ v0 ∧ v0 ≤ 9223372036854775807) → pre 42 [v0] → p42 T I M pre (fun ys => ys = T.fn 42 [v0]) v0) : CT Try.prog T.fns (pres pre) 42 s42 :=
  T.ctq (F := ⟨c42, []⟩) (fuel := 250) v42 Try.checked.mixed hs ht hg hC Try.func42 I M (fun _ h _ => h) fun xs hx hp => by
    match xs, hx, hp with
    | [v0], hx, hp => rw [q42]; exact h v0 hx.1 hp

/-- loop.example/g01242/spec.l00In -/
noncomputable def c73 : Cfg := ⟨Try.prog, []⟩
def iv73 : List Iv := [⟨(-9223372036854775808), 9223372036854775807⟩, ⟨(-9223372036854775808), 9223372036854775807⟩, ⟨(-9223372036854775808), 9223372036854775807⟩]
def t73 : VC :=
 (.ite (.le (.var 1) (.var 0))
  (.fin (.e (.ite (.le (.var 0) (.var 2)) (.lit 1) (.lit 0)) .nil))
  (.fin (.e (.lit 0) .nil)))
theorem v73 : vcOfI ⟨c73, []⟩ iv73 250 Try.f73 s73 = t73 := by kernel_rfl
set_option linter.unusedVariables false in
def p73 (T : Tab) (I : Nat → List Int → List Int → Prop) (M : Nat → List Int → List Int → Nat) (pre : Nat → List Int → Prop) (post : List Int → Prop) (v0 v1 v2 : Int) : Prop :=
 ((decide ((v1 : Int) ≤ v0) = true →
  post [(if decide ((v0 : Int) ≤ v2) = true then 1 else 0)]) ∧ (decide ((v1 : Int) ≤ v0) = false →
  post [0]))
theorem q73 (T : Tab) (I : Nat → List Int → List Int → Prop) (M : Nat → List Int → List Int → Nat) (pre : Nat → List Int → Prop) (post : List Int → Prop) (v0 v1 v2 : Int) : t73.plain T (presL pre I M) post ⟨[v0, v1, v2], []⟩ = p73 T I M pre post v0 v1 v2 := by kernel_rfl
theorem k73 (T : Tab) (I : Nat → List Int → List Int → Prop) (M : Nat → List Int → List Int → Nat) (pre : Nat → List Int → Prop) (hs : SubSig T c73.sigs) (ht : Tot pre c73.sigs) (hg : T.sig 73 = some s73) (hC : CtAll Try.prog T.fns (pres pre) c73.sigs)
    (h : ∀ (v0 v1 v2 : Int), ((-9223372036854775808) ≤ v0 ∧ v0 ≤ 9223372036854775807) → ((-9223372036854775808) ≤ v1 ∧ v1 ≤ 9223372036854775807) → ((-9223372036854775808) ≤ v2 ∧ v2 ≤ 9223372036854775807) → pre 73 [v0, v1, v2] → p73 T I M pre (fun ys => ys = T.fn 73 [v0, v1, v2]) v0 v1 v2) : CT Try.prog T.fns (pres pre) 73 s73 :=
  T.ctq (F := ⟨c73, []⟩) (fuel := 250) v73 Try.checked.mixed hs ht hg hC Try.func73 I M (fun _ h _ => h) fun xs hx hp => by
    match xs, hx, hp with
    | [v0, v1, v2], hx, hp => rw [q73]; exact h v0 v1 v2 hx.1 hx.2.1 hx.2.2.1 hp

/-- loop.example/g01242/spec.l01Bits -/
noncomputable def c81 : Cfg := ⟨Try.prog, []⟩
def iv81 : List Iv := [⟨0, 4294967295⟩, ⟨0, 4294967295⟩, ⟨0, 4294967295⟩, ⟨0, 4294967295⟩, ⟨0, 4294967295⟩, ⟨0, 4294967295⟩]
def t81 : VC :=
 (.ite (.eq (.var 5) (.lit 0))
  (.ite (.eq (.var 4) (.lit 0))
   (.ite (.eq (.var 3) (.lit 0))
    (.ite (.eq (.var 2) (.lit 0))
     (.ite (.eq (.var 1) (.lit 0))
      (.ite (.eq (.var 0) (.lit 0))
       (.fin (.e (.lit 0) .nil))
       (.loop 0 [(.lit 0), (.var 0)] [⟨0, 32⟩, ⟨0, 4294967295⟩]
        (.ite (.lt (.lit 0) (.var 7))
         (.bind (.div (.var 7) (.lit 2))
         (.again 0 6 [⟨0, 32⟩, ⟨0, 4294967295⟩] [(.add (.var 6) (.lit 1)), (.var 8)]))
         (.bind (.add (.lit 0) (.var 6))
         (.fin (.e (.var 8) .nil))))))
      (.loop 0 [(.lit 0), (.var 1)] [⟨0, 32⟩, ⟨0, 4294967295⟩]
       (.ite (.lt (.lit 0) (.var 7))
        (.bind (.div (.var 7) (.lit 2))
        (.again 0 6 [⟨0, 32⟩, ⟨0, 4294967295⟩] [(.add (.var 6) (.lit 1)), (.var 8)]))
        (.bind (.add (.lit 32) (.var 6))
        (.fin (.e (.var 8) .nil))))))
     (.loop 0 [(.lit 0), (.var 2)] [⟨0, 32⟩, ⟨0, 4294967295⟩]
      (.ite (.lt (.lit 0) (.var 7))
       (.bind (.div (.var 7) (.lit 2))
       (.again 0 6 [⟨0, 32⟩, ⟨0, 4294967295⟩] [(.add (.var 6) (.lit 1)), (.var 8)]))
       (.bind (.add (.lit 64) (.var 6))
       (.fin (.e (.var 8) .nil))))))
    (.loop 0 [(.lit 0), (.var 3)] [⟨0, 32⟩, ⟨0, 4294967295⟩]
     (.ite (.lt (.lit 0) (.var 7))
      (.bind (.div (.var 7) (.lit 2))
      (.again 0 6 [⟨0, 32⟩, ⟨0, 4294967295⟩] [(.add (.var 6) (.lit 1)), (.var 8)]))
      (.bind (.add (.lit 96) (.var 6))
      (.fin (.e (.var 8) .nil))))))
   (.loop 0 [(.lit 0), (.var 4)] [⟨0, 32⟩, ⟨0, 4294967295⟩]
    (.ite (.lt (.lit 0) (.var 7))
     (.bind (.div (.var 7) (.lit 2))
     (.again 0 6 [⟨0, 32⟩, ⟨0, 4294967295⟩] [(.add (.var 6) (.lit 1)), (.var 8)]))
     (.bind (.add (.lit 128) (.var 6))
     (.fin (.e (.var 8) .nil))))))
  (.loop 0 [(.lit 0), (.var 5)] [⟨0, 32⟩, ⟨0, 4294967295⟩]
   (.ite (.lt (.lit 0) (.var 7))
    (.bind (.div (.var 7) (.lit 2))
    (.again 0 6 [⟨0, 32⟩, ⟨0, 4294967295⟩] [(.add (.var 6) (.lit 1)), (.var 8)]))
    (.bind (.add (.lit 160) (.var 6))
    (.fin (.e (.var 8) .nil))))))
theorem v81 : vcOfI ⟨c81, [(7, ⟨0, [4, 5], [], [21, 22, 25, 26, 23, 24], [⟨0, 32⟩, ⟨0, 4294967295⟩]⟩)]⟩ iv81 250 Try.f81 s81 = t81 := by kernel_rfl
set_option linter.unusedVariables false in
def p81 (T : Tab) (I : Nat → List Int → List Int → Prop) (M : Nat → List Int → List Int → Nat) (pre : Nat → List Int → Prop) (post : List Int → Prop) (v0 v1 v2 v3 v4 v5 : Int) : Prop :=
 ((decide ((v5 : Int) = 0) = true →
  ((decide ((v4 : Int) = 0) = true →
   ((decide ((v3 : Int) = 0) = true →
    ((decide ((v2 : Int) = 0) = true →
     ((decide ((v1 : Int) = 0) = true →
      ((decide ((v0 : Int) = 0) = true →
       post [0]) ∧ (decide ((v0 : Int) = 0) = false →
       ((allHas [⟨0, 32⟩, ⟨0, 4294967295⟩] [0, v0] ∧ I 0 [v0, v1, v2, v3, v4, v5] [0, v0]) ∧ ∀ v6 v7 : Int, allHas [⟨0, 32⟩, ⟨0, 4294967295⟩] [v6, v7] → I 0 [v0, v1, v2, v3, v4, v5] [v6, v7] →
        ((decide ((0 : Int) < v7) = true →
         ∀ v8 : Int, v8 = (v7 / 2) →
         (allHas [⟨0, 32⟩, ⟨0, 4294967295⟩] [(v6 + 1), v8] ∧ I 0 [v0, v1, v2, v3, v4, v5] [(v6 + 1), v8] ∧ M 0 [v0, v1, v2, v3, v4, v5] [(v6 + 1), v8] < M 0 [v0, v1, v2, v3, v4, v5] [v6, v7])) ∧ (decide ((0 : Int) < v7) = false →
         ∀ v8 : Int, v8 = (0 + v6) →
         post [v8])))))) ∧ (decide ((v1 : Int) = 0) = false →
      ((allHas [⟨0, 32⟩, ⟨0, 4294967295⟩] [0, v1] ∧ I 0 [v0, v1, v2, v3, v4, v5] [0, v1]) ∧ ∀ v6 v7 : Int, allHas [⟨0, 32⟩, ⟨0, 4294967295⟩] [v6, v7] → I 0 [v0, v1, v2, v3, v4, v5] [v6, v7] →
       ((decide ((0 : Int) < v7) = true →
        ∀ v8 : Int, v8 = (v7 / 2) →
        (allHas [⟨0, 32⟩, ⟨0, 4294967295⟩] [(v6 + 1), v8] ∧ I 0 [v0, v1, v2, v3, v4, v5] [(v6 + 1), v8] ∧ M 0 [v0, v1, v2, v3, v4, v5] [(v6 + 1), v8] < M 0 [v0, v1, v2, v3, v4, v5] [v6, v7])) ∧ (decide ((0 : Int) < v7) = false →
        ∀ v8 : Int, v8 = (32 + v6) →
        post [v8])))))) ∧ (decide ((v2 : Int) = 0) = false →
     ((allHas [⟨0, 32⟩, ⟨0, 4294967295⟩] [0, v2] ∧ I 0 [v0, v1, v2, v3, v4, v5] [0, v2]) ∧ ∀ v6 v7 : Int, allHas [⟨0, 32⟩, ⟨0, 4294967295⟩] [v6, v7] → I 0 [v0, v1, v2, v3, v4, v5] [v6, v7] →
      ((decide ((0 : Int) < v7) = true →
       ∀ v8 : Int, v8 = (v7 / 2) →
       (allHas [⟨0, 32⟩, ⟨0, 4294967295⟩] [(v6 + 1), v8] ∧ I 0 [v0, v1, v2, v3, v4, v5] [(v6 + 1), v8] ∧ M 0 [v0, v1, v2, v3, v4, v5] [(v6 + 1), v8] < M 0 [v0, v1, v2, v3, v4, v5] [v6, v7])) ∧ (decide ((0 : Int) < v7) = false →
       ∀ v8 : Int, v8 = (64 + v6) →
       post [v8])))))) ∧ (decide ((v3 : Int) = 0) = false →
    ((allHas [⟨0, 32⟩, ⟨0, 4294967295⟩] [0, v3] ∧ I 0 [v0, v1, v2, v3, v4, v5] [0, v3]) ∧ ∀ v6 v7 : Int, allHas [⟨0, 32⟩, ⟨0, 4294967295⟩] [v6, v7] → I 0 [v0, v1, v2, v3, v4, v5] [v6, v7] →
     ((decide ((0 : Int) < v7) = true →
      ∀ v8 : Int, v8 = (v7 / 2) →
      (allHas [⟨0, 32⟩, ⟨0, 4294967295⟩] [(v6 + 1), v8] ∧ I 0 [v0, v1, v2, v3, v4, v5] [(v6 + 1), v8] ∧ M 0 [v0, v1, v2, v3, v4, v5] [(v6 + 1), v8] < M 0 [v0, v1, v2, v3, v4, v5] [v6, v7])) ∧ (decide ((0 : Int) < v7) = false →
      ∀ v8 : Int, v8 = (96 + v6) →
      post [v8])))))) ∧ (decide ((v4 : Int) = 0) = false →
   ((allHas [⟨0, 32⟩, ⟨0, 4294967295⟩] [0, v4] ∧ I 0 [v0, v1, v2, v3, v4, v5] [0, v4]) ∧ ∀ v6 v7 : Int, allHas [⟨0, 32⟩, ⟨0, 4294967295⟩] [v6, v7] → I 0 [v0, v1, v2, v3, v4, v5] [v6, v7] →
    ((decide ((0 : Int) < v7) = true →
     ∀ v8 : Int, v8 = (v7 / 2) →
     (allHas [⟨0, 32⟩, ⟨0, 4294967295⟩] [(v6 + 1), v8] ∧ I 0 [v0, v1, v2, v3, v4, v5] [(v6 + 1), v8] ∧ M 0 [v0, v1, v2, v3, v4, v5] [(v6 + 1), v8] < M 0 [v0, v1, v2, v3, v4, v5] [v6, v7])) ∧ (decide ((0 : Int) < v7) = false →
     ∀ v8 : Int, v8 = (128 + v6) →
     post [v8])))))) ∧ (decide ((v5 : Int) = 0) = false →
  ((allHas [⟨0, 32⟩, ⟨0, 4294967295⟩] [0, v5] ∧ I 0 [v0, v1, v2, v3, v4, v5] [0, v5]) ∧ ∀ v6 v7 : Int, allHas [⟨0, 32⟩, ⟨0, 4294967295⟩] [v6, v7] → I 0 [v0, v1, v2, v3, v4, v5] [v6, v7] →
   ((decide ((0 : Int) < v7) = true →
    ∀ v8 : Int, v8 = (v7 / 2) →
    (allHas [⟨0, 32⟩, ⟨0, 4294967295⟩] [(v6 + 1), v8] ∧ I 0 [v0, v1, v2, v3, v4, v5] [(v6 + 1), v8] ∧ M 0 [v0, v1, v2, v3, v4, v5] [(v6 + 1), v8] < M 0 [v0, v1, v2, v3, v4, v5] [v6, v7])) ∧ (decide ((0 : Int) < v7) = false →
    ∀ v8 : Int, v8 = (160 + v6) →
    post [v8])))))
theorem q81 (T : Tab) (I : Nat → List Int → List Int → Prop) (M : Nat → List Int → List Int → Nat) (pre : Nat → List Int → Prop) (post : List Int → Prop) (v0 v1 v2 v3 v4 v5 : Int) : t81.plain T (presL pre I M) post ⟨[v0, v1, v2, v3, v4, v5], []⟩ = p81 T I M pre post v0 v1 v2 v3 v4 v5 := by kernel_rfl
theorem k81 (T : Tab) (I : Nat → List Int → List Int → Prop) (M : Nat → List Int → List Int → Nat) (pre : Nat → List Int → Prop) (hs : SubSig T c81.sigs) (ht : Tot pre c81.sigs) (hg : T.sig 81 = some s81) (hC : CtAll Try.prog T.fns (pres pre) c81.sigs)
    (h : ∀ (v0 v1 v2 v3 v4 v5 : Int), (0 ≤ v0 ∧ v0 ≤ 4294967295) → (0 ≤ v1 ∧ v1 ≤ 4294967295) → (0 ≤ v2 ∧ v2 ≤ 4294967295) → (0 ≤ v3 ∧ v3 ≤ 4294967295) → (0 ≤ v4 ∧ v4 ≤ 4294967295) → (0 ≤ v5 ∧ v5 ≤ 4294967295) → pre 81 [v0, v1, v2, v3, v4, v5] → p81 T I M pre (fun ys => ys = T.fn 81 [v0, v1, v2, v3, v4, v5]) v0 v1 v2 v3 v4 v5) : CT Try.prog T.fns (pres pre) 81 s81 :=
  T.ctq (F := ⟨c81, [(7, ⟨0, [4, 5], [], [21, 22, 25, 26, 23, 24], [⟨0, 32⟩, ⟨0, 4294967295⟩]⟩)]⟩) (fuel := 250) v81 Try.checked.mixed hs ht hg hC Try.func81 I M (fun _ h _ => h) fun xs hx hp => by
    match xs, hx, hp with
    | [v0, v1, v2, v3, v4, v5], hx, hp => rw [q81]; exact h v0 v1 v2 v3 v4 v5 hx.1 hx.2.1 hx.2.2.1 hx.2.2.2.1 hx.2.2.2.2.1 hx.2.2.2.2.2.1 hp

end Go.Proofs.Ytppbanmlifikpab.Sx
