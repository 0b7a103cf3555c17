/-
  Signatures of functions: how their arguments and results are taken apart into numbers. Written by a program of mine.
  What the symbolic executor asks of these functions, written out by a program of mine, and that it asks just this.
  What the symbolic executor asks of these functions, written out by a program of mine, and that it asks just this.
  What the symbolic executor asks of these functions, written out by a program of mine, and that it asks just this.
  What the symbolic executor asks of these functions, written out by a program of mine, and that it asks just this.
-/
import Derived.Test.YtmlmdicdblgcfaaX2
import Derived.Test.YtmlmdicdblgcfaaVA
import Derived.Test.YtmlmdicdblgcfaaVB
import Derived.Test.YtmlmdicdblgcfaaChecked
import Derived.KernelRfl
namespace Go.Proofs.Ytmlmdicdblgcfaa.Sx
open Go Go.RowKit
def s6 : Sig := ⟨[.val true [.b, .i .u32, .i .u32, .i .u32, .i .u32, .i .u32, .i .u32], .val true [.b, .i .u32, .i .u32, .i .u32, .i .u32, .i .u32, .i .u32]], [(false, [.b])], true⟩
def s7 : Sig := ⟨[.val true [.b, .i .u32, .i .u32, .i .u32, .i .u32, .i .u32, .i .u32], .val true [.b, .i .u32, .i .u32, .i .u32, .i .u32, .i .u32, .i .u32]], [(false, [.b])], true⟩
def s26 : Sig := ⟨[.val true [.b, .i .u32, .i .u32, .i .u32, .i .u32, .i .u32, .i .u32], .val true [.b, .i .u32, .i .u32, .i .u32, .i .u32, .i .u32, .i .u32]], [(true, [.b, .i .u32, .i .u32, .i .u32, .i .u32, .i .u32, .i .u32]), (false, [.i .i64])], true⟩
def s25 : Sig := ⟨[.val true [.b, .i .u32, .i .u32, .i .u32, .i .u32, .i .u32, .i .u32], .val true [.b, .i .u32, .i .u32, .i .u32, .i .u32, .i .u32, .i .u32]], [(true, [.b, .i .u32, .i .u32, .i .u32, .i .u32, .i .u32, .i .u32]), (false, [.i .i64])], true⟩
def s62 : Sig := ⟨[.val true [.b, .i .u32, .i .u32, .i .u32, .i .u32, .i .u32, .i .u32], .val true [.b, .i .u32, .i .u32, .i .u32, .i .u32, .i .u32, .i .u32]], [(true, [.b, .i .u32, .i .u32, .i .u32, .i .u32, .i .u32, .i .u32])], false⟩
def s8 : Sig := ⟨[.val true [.b, .i .u32, .i .u32, .i .u32, .i .u32, .i .u32, .i .u32]], [(false, [.b])], true⟩
def s28 : Sig := ⟨[.val true [.b, .i .u32, .i .u32, .i .u32, .i .u32, .i .u32, .i .u32]], [(true, [.b, .i .u32, .i .u32, .i .u32, .i .u32, .i .u32, .i .u32]), (false, [.i .i64])], true⟩
def s27 : Sig := ⟨[.val true [.b, .i .u32, .i .u32, .i .u32, .i .u32, .i .u32, .i .u32]], [(true, [.b, .i .u32, .i .u32, .i .u32, .i .u32, .i .u32, .i .u32]), (false, [.i .i64])], true⟩
def s65 : Sig := ⟨[.val true [.b, .i .u32, .i .u32, .i .u32, .i .u32, .i .u32, .i .u32]], [(true, [.b, .i .u32, .i .u32, .i .u32, .i .u32, .i .u32, .i .u32])], false⟩
def s66 : Sig := ⟨[.val true [.i .u32, .i .u32, .i .u32, .i .u32, .i .u32, .i .u32]], [(true, [.i .u32, .i .u32, .i .u32, .i .u32, .i .u32, .i .u32])], true⟩
def s80 : Sig := ⟨[.ptr [.b, .i .u32, .i .u32, .i .u32, .i .u32, .i .u32, .i .u32], .ptr [.b, .i .u32, .i .u32, .i .u32, .i .u32, .i .u32, .i .u32]], [(false, [.n .i64 (-1) 1])], true⟩
def s10 : Sig := ⟨[.val true [.b, .i .u32, .i .u32, .i .u32, .i .u32, .i .u32, .i .u32], .val true [.b, .i .u32, .i .u32, .i .u32, .i .u32, .i .u32, .i .u32]], [(false, [.b])], true⟩
def s32 : Sig := ⟨[.val true [.b, .i .u32, .i .u32, .i .u32, .i .u32, .i .u32, .i .u32], .val true [.b, .i .u32, .i .u32, .i .u32, .i .u32, .i .u32, .i .u32]], [(true, [.b, .i .u32, .i .u32, .i .u32, .i .u32, .i .u32, .i .u32]), (false, [.i .i64])], true⟩
def s31 : Sig := ⟨[.val true [.b, .i .u32, .i .u32, .i .u32, .i .u32, .i .u32, .i .u32], .val true [.b, .i .u32, .i .u32, .i .u32, .i .u32, .i .u32, .i .u32]], [(true, [.b, .i .u32, .i .u32, .i .u32, .i .u32, .i .u32, .i .u32]), (false, [.i .i64])], true⟩
def sigsV5 : List (Nat × Sig) := [(6, s6), (7, s7), (26, s26), (25, s25), (62, s62), (8, s8), (28, s28), (27, s27), (65, s65), (66, s66), (80, s80), (10, s10), (32, s32), (31, s31)]

end Go.Proofs.Ytmlmdicdblgcfaa.Sx

namespace Go.Proofs.Ytmlmdicdblgcfaa.Sx
open Go Go.RowKit
/-- loop.example/g01242/laws.FnExactDivWides -/
noncomputable def c6 : Cfg := ⟨Try.prog, [(16, s16), (23, s23), (24, s24), (18, s18)]⟩
def iv6 : List Iv := [⟨0, 1⟩, ⟨0, 4294967295⟩, ⟨0, 4294967295⟩, ⟨0, 4294967295⟩, ⟨0, 4294967295⟩, ⟨0, 4294967295⟩, ⟨0, 4294967295⟩, ⟨0, 1⟩, ⟨0, 4294967295⟩, ⟨0, 4294967295⟩, ⟨0, 4294967295⟩, ⟨0, 4294967295⟩, ⟨0, 4294967295⟩, ⟨0, 4294967295⟩]
def t6 : VC :=
 (.call 16 (.e (.var 0) (.e (.var 1) (.e (.var 2) (.e (.var 3) (.e (.var 4) (.e (.var 5) (.e (.var 6) .nil))))))) 7
 (.call 16 (.e (.var 7) (.e (.var 8) (.e (.var 9) (.e (.var 10) (.e (.var 11) (.e (.var 12) (.e (.var 13) .nil))))))) 7
 (.call 23 (.e (.var 14) (.e (.var 15) (.e (.var 16) (.e (.var 17) (.e (.var 18) (.e (.var 19) (.e (.var 20) (.e (.var 21) (.e (.var 22) (.e (.var 23) (.e (.var 24) (.e (.var 25) (.e (.var 26) (.e (.var 27) .nil)))))))))))))) 15
 (.call 16 (.e (.var 0) (.e (.var 1) (.e (.var 2) (.e (.var 3) (.e (.var 4) (.e (.var 5) (.e (.var 6) .nil))))))) 7
 (.call 16 (.e (.var 7) (.e (.var 8) (.e (.var 9) (.e (.var 10) (.e (.var 11) (.e (.var 12) (.e (.var 13) .nil))))))) 7
 (.call 24 (.e (.var 43) (.e (.var 44) (.e (.var 45) (.e (.var 46) (.e (.var 47) (.e (.var 48) (.e (.var 49) (.e (.var 50) (.e (.var 51) (.e (.var 52) (.e (.var 53) (.e (.var 54) (.e (.var 55) (.e (.var 56) .nil)))))))))))))) 15
 (.call 18 (.e (.var 57) (.e (.var 58) (.e (.var 59) (.e (.var 60) (.e (.var 61) (.e (.var 62) (.e (.var 63) (.e (.var 28) (.e (.var 29) (.e (.var 30) (.e (.var 31) (.e (.var 32) (.e (.var 33) (.e (.var 34) .nil)))))))))))))) 1
 (.ite (.eq (.var 72) (.lit 1))
  (.call 18 (.e (.var 64) (.e (.var 65) (.e (.var 66) (.e (.var 67) (.e (.var 68) (.e (.var 69) (.e (.var 70) (.e (.var 35) (.e (.var 36) (.e (.var 37) (.e (.var 38) (.e (.var 39) (.e (.var 40) (.e (.var 41) .nil)))))))))))))) 1
  (.ite (.eq (.var 73) (.lit 1))
   (.ite (.not (.eq (.var 71) (.var 42)))
    (.fin (.e (.lit 0) .nil))
    (.fin (.e (.lit 1) .nil)))
   (.fin (.e (.lit 0) .nil))))
  (.fin (.e (.lit 0) .nil))))))))))
theorem vc6 : vcOfI ⟨c6, []⟩ iv6 250 Try.f6 s6 = t6 := by kernel_rfl
set_option linter.unusedVariables false in
def p6 (T : Tab) (I : Nat → List Int → List Int → Prop) (M : Nat → List Int → List Int → Nat) (pre : Nat → List Int → Prop) (post : List Int → Prop) (v0 v1 v2 v3 v4 v5 v6 v7 v8 v9 v10 v11 v12 v13 : Int) : Prop :=
 ∀ v14 v15 v16 v17 v18 v19 v20 : Int, [v14, v15, v16, v17, v18, v19, v20] = T.out 16 7 [v0, v1, v2, v3, v4, v5, v6] →
 ∀ v21 v22 v23 v24 v25 v26 v27 : Int, [v21, v22, v23, v24, v25, v26, v27] = T.out 16 7 [v7, v8, v9, v10, v11, v12, v13] →
 ∀ v28 v29 v30 v31 v32 v33 v34 v35 v36 v37 v38 v39 v40 v41 v42 : Int, [v28, v29, v30, v31, v32, v33, v34, v35, v36, v37, v38, v39, v40, v41, v42] = T.out 23 15 [v14, v15, v16, v17, v18, v19, v20, v21, v22, v23, v24, v25, v26, v27] →
 ∀ v43 v44 v45 v46 v47 v48 v49 : Int, [v43, v44, v45, v46, v47, v48, v49] = T.out 16 7 [v0, v1, v2, v3, v4, v5, v6] →
 ∀ v50 v51 v52 v53 v54 v55 v56 : Int, [v50, v51, v52, v53, v54, v55, v56] = T.out 16 7 [v7, v8, v9, v10, v11, v12, v13] →
 ∀ v57 v58 v59 v60 v61 v62 v63 v64 v65 v66 v67 v68 v69 v70 v71 : Int, [v57, v58, v59, v60, v61, v62, v63, v64, v65, v66, v67, v68, v69, v70, v71] = T.out 24 15 [v43, v44, v45, v46, v47, v48, v49, v50, v51, v52, v53, v54, v55, v56] →
 ∀ v72 : Int, [v72] = T.out 18 1 [v57, v58, v59, v60, v61, v62, v63, v28, v29, v30, v31, v32, v33, v34] →
 ((decide ((v72 : Int) = 1) = true →
  ∀ v73 : Int, [v73] = T.out 18 1 [v64, v65, v66, v67, v68, v69, v70, v35, v36, v37, v38, v39, v40, v41] →
  ((decide ((v73 : Int) = 1) = true →
   (((!decide ((v71 : Int) = v42)) = true →
    post [0]) ∧ ((!decide ((v71 : Int) = v42)) = false →
    post [1]))) ∧ (decide ((v73 : Int) = 1) = false →
   post [0]))) ∧ (decide ((v72 : Int) = 1) = false →
  post [0]))
theorem q6 (T : Tab) (I : Nat → List Int → List Int → Prop) (M : Nat → List Int → List Int → Nat) (pre : Nat → List Int → Prop) (post : List Int → Prop) (v0 v1 v2 v3 v4 v5 v6 v7 v8 v9 v10 v11 v12 v13 : Int) : t6.plain T (presL pre I M) post ⟨[v0, v1, v2, v3, v4, v5, v6, v7, v8, v9, v10, v11, v12, v13], []⟩ = p6 T I M pre post v0 v1 v2 v3 v4 v5 v6 v7 v8 v9 v10 v11 v12 v13 := by kernel_rfl
theorem k6 (T : Tab) (I : Nat → List Int → List Int → Prop) (M : Nat → List Int → List Int → Nat) (pre : Nat → List Int → Prop) (hs : SubSig T c6.sigs) (ht : Tot pre c6.sigs) (hg : T.sig 6 = some s6) (hC : CtAll Try.prog T.fns (pres pre) c6.sigs)
    (h : ∀ (v0 v1 v2 v3 v4 v5 v6 v7 v8 v9 v10 v11 v12 v13 : Int), (0 ≤ v0 ∧ v0 ≤ 1) → (0 ≤ v1 ∧ v1 ≤ 4294967295) → (0 ≤ v2 ∧ v2 ≤ 4294967295) → (0 ≤ v3 ∧ v3 ≤ 4294967295) → (0 ≤ v4 ∧ v4 ≤ 4294967295) → (0 ≤ v5 ∧ v5 ≤ 4294967295) → (0 ≤ v6 ∧ v6 ≤ 4294967295) → (0 ≤ v7 ∧ v7 ≤ 1) → (0 ≤ v8 ∧ v8 ≤ 4294967295) → (0 ≤ v9 ∧ v9 ≤ 4294967295) → (0 ≤ v10 ∧ v10 ≤ 4294967295) → (0 ≤ v11 ∧ v11 ≤ 4294967295) → (0 ≤ v12 ∧ v12 ≤ 4294967295) → (0 ≤ v13 ∧ v13 ≤ 4294967295) → pre 6 [v0, v1, v2, v3, v4, v5, v6, v7, v8, v9, v10, v11, v12, v13] → p6 T I M pre (fun ys => ys = T.fn 6 [v0, v1, v2, v3, v4, v5, v6, v7, v8, v9, v10, v11, v12, v13]) v0 v1 v2 v3 v4 v5 v6 v7 v8 v9 v10 v11 v12 v13) : CT Try.prog T.fns (pres pre) 6 s6 :=
  T.ctq (F := ⟨c6, []⟩) (fuel := 250) vc6 Try.checked.mixed hs ht hg hC Try.func6 I M (fun _ h _ => h) fun xs hx hp => by
    match xs, hx, hp with
    | [v0, v1, v2, v3, v4, v5, v6, v7, v8, v9, v10, v11, v12, v13], hx, hp => rw [q6]; exact h v0 v1 v2 v3 v4 v5 v6 v7 v8 v9 v10 v11 v12 v13 hx.1 hx.2.1 hx.2.2.1 hx.2.2.2.1 hx.2.2.2.2.1 hx.2.2.2.2.2.1 hx.2.2.2.2.2.2.1 hx.2.2.2.2.2.2.2.1 hx.2.2.2.2.2.2.2.2.1 hx.2.2.2.2.2.2.2.2.2.1 hx.2.2.2.2.2.2.2.2.2.2.1 hx.2.2.2.2.2.2.2.2.2.2.2.1 hx.2.2.2.2.2.2.2.2.2.2.2.2.1 hx.2.2.2.2.2.2.2.2.2.2.2.2.2.1 hp

/-- loop.example/g01242/laws.FnExactDivNear -/
noncomputable def c7 : Cfg := ⟨Try.prog, [(16, s16), (25, s25), (26, s26), (18, s18)]⟩
def iv7 : List Iv := [⟨0, 1⟩, ⟨0, 4294967295⟩, ⟨0, 4294967295⟩, ⟨0, 4294967295⟩, ⟨0, 4294967295⟩, ⟨0, 4294967295⟩, ⟨0, 4294967295⟩, ⟨0, 1⟩, ⟨0, 4294967295⟩, ⟨0, 4294967295⟩, ⟨0, 4294967295⟩, ⟨0, 4294967295⟩, ⟨0, 4294967295⟩, ⟨0, 4294967295⟩]
def t7 : VC :=
 (.call 16 (.e (.var 0) (.e (.var 1) (.e (.var 2) (.e (.var 3) (.e (.var 4) (.e (.var 5) (.e (.var 6) .nil))))))) 7
 (.call 16 (.e (.var 7) (.e (.var 8) (.e (.var 9) (.e (.var 10) (.e (.var 11) (.e (.var 12) (.e (.var 13) .nil))))))) 7
 (.call 25 (.e (.var 14) (.e (.var 15) (.e (.var 16) (.e (.var 17) (.e (.var 18) (.e (.var 19) (.e (.var 20) (.e (.var 21) (.e (.var 22) (.e (.var 23) (.e (.var 24) (.e (.var 25) (.e (.var 26) (.e (.var 27) .nil)))))))))))))) 8
 (.call 16 (.e (.var 0) (.e (.var 1) (.e (.var 2) (.e (.var 3) (.e (.var 4) (.e (.var 5) (.e (.var 6) .nil))))))) 7
 (.call 16 (.e (.var 7) (.e (.var 8) (.e (.var 9) (.e (.var 10) (.e (.var 11) (.e (.var 12) (.e (.var 13) .nil))))))) 7
 (.call 26 (.e (.var 36) (.e (.var 37) (.e (.var 38) (.e (.var 39) (.e (.var 40) (.e (.var 41) (.e (.var 42) (.e (.var 43) (.e (.var 44) (.e (.var 45) (.e (.var 46) (.e (.var 47) (.e (.var 48) (.e (.var 49) .nil)))))))))))))) 8
 (.call 18 (.e (.var 50) (.e (.var 51) (.e (.var 52) (.e (.var 53) (.e (.var 54) (.e (.var 55) (.e (.var 56) (.e (.var 28) (.e (.var 29) (.e (.var 30) (.e (.var 31) (.e (.var 32) (.e (.var 33) (.e (.var 34) .nil)))))))))))))) 1
 (.ite (.eq (.var 58) (.lit 1))
  (.ite (.not (.eq (.var 57) (.var 35)))
   (.fin (.e (.lit 0) .nil))
   (.fin (.e (.lit 1) .nil)))
  (.fin (.e (.lit 0) .nil))))))))))
theorem vc7 : vcOfI ⟨c7, []⟩ iv7 250 Try.f7 s7 = t7 := by kernel_rfl
set_option linter.unusedVariables false in
def p7 (T : Tab) (I : Nat → List Int → List Int → Prop) (M : Nat → List Int → List Int → Nat) (pre : Nat → List Int → Prop) (post : List Int → Prop) (v0 v1 v2 v3 v4 v5 v6 v7 v8 v9 v10 v11 v12 v13 : Int) : Prop :=
 ∀ v14 v15 v16 v17 v18 v19 v20 : Int, [v14, v15, v16, v17, v18, v19, v20] = T.out 16 7 [v0, v1, v2, v3, v4, v5, v6] →
 ∀ v21 v22 v23 v24 v25 v26 v27 : Int, [v21, v22, v23, v24, v25, v26, v27] = T.out 16 7 [v7, v8, v9, v10, v11, v12, v13] →
 ∀ v28 v29 v30 v31 v32 v33 v34 v35 : Int, [v28, v29, v30, v31, v32, v33, v34, v35] = T.out 25 8 [v14, v15, v16, v17, v18, v19, v20, v21, v22, v23, v24, v25, v26, v27] →
 ∀ v36 v37 v38 v39 v40 v41 v42 : Int, [v36, v37, v38, v39, v40, v41, v42] = T.out 16 7 [v0, v1, v2, v3, v4, v5, v6] →
 ∀ v43 v44 v45 v46 v47 v48 v49 : Int, [v43, v44, v45, v46, v47, v48, v49] = T.out 16 7 [v7, v8, v9, v10, v11, v12, v13] →
 ∀ v50 v51 v52 v53 v54 v55 v56 v57 : Int, [v50, v51, v52, v53, v54, v55, v56, v57] = T.out 26 8 [v36, v37, v38, v39, v40, v41, v42, v43, v44, v45, v46, v47, v48, v49] →
 ∀ v58 : Int, [v58] = T.out 18 1 [v50, v51, v52, v53, v54, v55, v56, v28, v29, v30, v31, v32, v33, v34] →
 ((decide ((v58 : Int) = 1) = true →
  (((!decide ((v57 : Int) = v35)) = true →
   post [0]) ∧ ((!decide ((v57 : Int) = v35)) = false →
   post [1]))) ∧ (decide ((v58 : Int) = 1) = false →
  post [0]))
theorem q7 (T : Tab) (I : Nat → List Int → List Int → Prop) (M : Nat → List Int → List Int → Nat) (pre : Nat → List Int → Prop) (post : List Int → Prop) (v0 v1 v2 v3 v4 v5 v6 v7 v8 v9 v10 v11 v12 v13 : Int) : t7.plain T (presL pre I M) post ⟨[v0, v1, v2, v3, v4, v5, v6, v7, v8, v9, v10, v11, v12, v13], []⟩ = p7 T I M pre post v0 v1 v2 v3 v4 v5 v6 v7 v8 v9 v10 v11 v12 v13 := by kernel_rfl
theorem k7 (T : Tab) (I : Nat → List Int → List Int → Prop) (M : Nat → List Int → List Int → Nat) (pre : Nat → List Int → Prop) (hs : SubSig T c7.sigs) (ht : Tot pre c7.sigs) (hg : T.sig 7 = some s7) (hC : CtAll Try.prog T.fns (pres pre) c7.sigs)
    (h : ∀ (v0 v1 v2 v3 v4 v5 v6 v7 v8 v9 v10 v11 v12 v13 : Int), (0 ≤ v0 ∧ v0 ≤ 1) → (0 ≤ v1 ∧ v1 ≤ 4294967295) → (0 ≤ v2 ∧ v2 ≤ 4294967295) → (0 ≤ v3 ∧ v3 ≤ 4294967295) → (0 ≤ v4 ∧ v4 ≤ 4294967295) → (0 ≤ v5 ∧ v5 ≤ 4294967295) → (0 ≤ v6 ∧ v6 ≤ 4294967295) → (0 ≤ v7 ∧ v7 ≤ 1) → (0 ≤ v8 ∧ v8 ≤ 4294967295) → (0 ≤ v9 ∧ v9 ≤ 4294967295) → (0 ≤ v10 ∧ v10 ≤ 4294967295) → (0 ≤ v11 ∧ v11 ≤ 4294967295) → (0 ≤ v12 ∧ v12 ≤ 4294967295) → (0 ≤ v13 ∧ v13 ≤ 4294967295) → pre 7 [v0, v1, v2, v3, v4, v5, v6, v7, v8, v9, v10, v11, v12, v13] → p7 T I M pre (fun ys => ys = T.fn 7 [v0, v1, v2, v3, v4, v5, v6, v7, v8, v9, v10, v11, v12, v13]) v0 v1 v2 v3 v4 v5 v6 v7 v8 v9 v10 v11 v12 v13) : CT Try.prog T.fns (pres pre) 7 s7 :=
  T.ctq (F := ⟨c7, []⟩) (fuel := 250) vc7 Try.checked.mixed hs ht hg hC Try.func7 I M (fun _ h _ => h) fun xs hx hp => by
    match xs, hx, hp with
    | [v0, v1, v2, v3, v4, v5, v6, v7, v8, v9, v10, v11, v12, v13], hx, hp => rw [q7]; exact h v0 v1 v2 v3 v4 v5 v6 v7 v8 v9 v10 v11 v12 v13 hx.1 hx.2.1 hx.2.2.1 hx.2.2.2.1 hx.2.2.2.2.1 hx.2.2.2.2.2.1 hx.2.2.2.2.2.2.1 hx.2.2.2.2.2.2.2.1 hx.2.2.2.2.2.2.2.2.1 hx.2.2.2.2.2.2.2.2.2.1 hx.2.2.2.2.2.2.2.2.2.2.1 hx.2.2.2.2.2.2.2.2.2.2.2.1 hx.2.2.2.2.2.2.2.2.2.2.2.2.1 hx.2.2.2.2.2.2.2.2.2.2.2.2.2.1 hp

/-- loop.example/g01242/impl.DivNear -/
noncomputable def c26 : Cfg := ⟨Try.prog, [(24, s24), (55, s55), (56, s56), (64, s64), (63, s63)]⟩
def iv26 : List Iv := [⟨0, 1⟩, ⟨0, 4294967295⟩, ⟨0, 4294967295⟩, ⟨0, 4294967295⟩, ⟨0, 4294967295⟩, ⟨0, 4294967295⟩, ⟨0, 4294967295⟩, ⟨0, 1⟩, ⟨0, 4294967295⟩, ⟨0, 4294967295⟩, ⟨0, 4294967295⟩, ⟨0, 4294967295⟩, ⟨0, 4294967295⟩, ⟨0, 4294967295⟩]
def t26 : VC :=
 (.call 24 (.e (.var 0) (.e (.var 1) (.e (.var 2) (.e (.var 3) (.e (.var 4) (.e (.var 5) (.e (.var 6) (.e (.var 7) (.e (.var 8) (.e (.var 9) (.e (.var 10) (.e (.var 11) (.e (.var 12) (.e (.var 13) .nil)))))))))))))) 15
 (.ite (.not (.eq (.var 28) (.lit 0)))
  (.fin (.e (.lit 0) (.e (.lit 0) (.e (.lit 0) (.e (.lit 0) (.e (.lit 0) (.e (.lit 0) (.e (.lit 0) (.e (.var 28) .nil)))))))))
  (.call 55 (.e (.var 8) (.e (.var 9) (.e (.var 10) (.e (.var 11) (.e (.var 12) (.e (.var 13) (.e (.var 22) (.e (.var 23) (.e (.var 24) (.e (.var 25) (.e (.var 26) (.e (.var 27) .nil)))))))))))) 6
  (.call 56 (.e (.var 22) (.e (.var 23) (.e (.var 24) (.e (.var 25) (.e (.var 26) (.e (.var 27) (.e (.var 29) (.e (.var 30) (.e (.var 31) (.e (.var 32) (.e (.var 33) (.e (.var 34) .nil)))))))))))) 1
  (.ite (.lt (.var 35) (.lit 0))
   (.fin (.e (.var 14) (.e (.var 15) (.e (.var 16) (.e (.var 17) (.e (.var 18) (.e (.var 19) (.e (.var 20) (.e (.lit 0) .nil)))))))))
   (.call 64 (.e (.lit 1) .nil) 7
   (.call 63 (.e (.var 14) (.e (.var 15) (.e (.var 16) (.e (.var 17) (.e (.var 18) (.e (.var 19) (.e (.var 20) (.e (.var 36) (.e (.var 37) (.e (.var 38) (.e (.var 39) (.e (.var 40) (.e (.var 41) (.e (.var 42) .nil)))))))))))))) 8
   (.fin (.e (.var 43) (.e (.var 44) (.e (.var 45) (.e (.var 46) (.e (.var 47) (.e (.var 48) (.e (.var 49) (.e (.var 50) .nil))))))))))))))))
theorem vc26 : vcOfI ⟨c26, []⟩ iv26 250 Try.f26 s26 = t26 := by kernel_rfl
set_option linter.unusedVariables false in
def p26 (T : Tab) (I : Nat → List Int → List Int → Prop) (M : Nat → List Int → List Int → Nat) (pre : Nat → List Int → Prop) (post : List Int → Prop) (v0 v1 v2 v3 v4 v5 v6 v7 v8 v9 v10 v11 v12 v13 : Int) : Prop :=
 ∀ v14 v15 v16 v17 v18 v19 v20 v21 v22 v23 v24 v25 v26 v27 v28 : Int, [v14, v15, v16, v17, v18, v19, v20, v21, v22, v23, v24, v25, v26, v27, v28] = T.out 24 15 [v0, v1, v2, v3, v4, v5, v6, v7, v8, v9, v10, v11, v12, v13] →
 (((!decide ((v28 : Int) = 0)) = true →
  post [0, 0, 0, 0, 0, 0, 0, v28]) ∧ ((!decide ((v28 : Int) = 0)) = false →
  ∀ v29 v30 v31 v32 v33 v34 : Int, [v29, v30, v31, v32, v33, v34] = T.out 55 6 [v8, v9, v10, v11, v12, v13, v22, v23, v24, v25, v26, v27] →
  ∀ v35 : Int, [v35] = T.out 56 1 [v22, v23, v24, v25, v26, v27, v29, v30, v31, v32, v33, v34] →
  ((decide ((v35 : Int) < 0) = true →
   post [v14, v15, v16, v17, v18, v19, v20, 0]) ∧ (decide ((v35 : Int) < 0) = false →
   ∀ v36 v37 v38 v39 v40 v41 v42 : Int, [v36, v37, v38, v39, v40, v41, v42] = T.out 64 7 [1] →
   ∀ v43 v44 v45 v46 v47 v48 v49 v50 : Int, [v43, v44, v45, v46, v47, v48, v49, v50] = T.out 63 8 [v14, v15, v16, v17, v18, v19, v20, v36, v37, v38, v39, v40, v41, v42] →
   post [v43, v44, v45, v46, v47, v48, v49, v50]))))
theorem q26 (T : Tab) (I : Nat → List Int → List Int → Prop) (M : Nat → List Int → List Int → Nat) (pre : Nat → List Int → Prop) (post : List Int → Prop) (v0 v1 v2 v3 v4 v5 v6 v7 v8 v9 v10 v11 v12 v13 : Int) : t26.plain T (presL pre I M) post ⟨[v0, v1, v2, v3, v4, v5, v6, v7, v8, v9, v10, v11, v12, v13], []⟩ = p26 T I M pre post v0 v1 v2 v3 v4 v5 v6 v7 v8 v9 v10 v11 v12 v13 := by kernel_rfl
theorem k26 (T : Tab) (I : Nat → List Int → List Int → Prop) (M : Nat → List Int → List Int → Nat) (pre : Nat → List Int → Prop) (hs : SubSig T c26.sigs) (ht : Tot pre c26.sigs) (hg : T.sig 26 = some s26) (hC : CtAll Try.prog T.fns (pres pre) c26.sigs)
    (h : ∀ (v0 v1 v2 v3 v4 v5 v6 v7 v8 v9 v10 v11 v12 v13 : Int), (0 ≤ v0 ∧ v0 ≤ 1) → (0 ≤ v1 ∧ v1 ≤ 4294967295) → (0 ≤ v2 ∧ v2 ≤ 4294967295) → (0 ≤ v3 ∧ v3 ≤ 4294967295) → (0 ≤ v4 ∧ v4 ≤ 4294967295) → (0 ≤ v5 ∧ v5 ≤ 4294967295) → (0 ≤ v6 ∧ v6 ≤ 4294967295) → (0 ≤ v7 ∧ v7 ≤ 1) → (0 ≤ v8 ∧ v8 ≤ 4294967295) → (0 ≤ v9 ∧ v9 ≤ 4294967295) → (0 ≤ v10 ∧ v10 ≤ 4294967295) → (0 ≤ v11 ∧ v11 ≤ 4294967295) → (0 ≤ v12 ∧ v12 ≤ 4294967295) → (0 ≤ v13 ∧ v13 ≤ 4294967295) → pre 26 [v0, v1, v2, v3, v4, v5, v6, v7, v8, v9, v10, v11, v12, v13] → p26 T I M pre (fun ys => ys = T.fn 26 [v0, v1, v2, v3, v4, v5, v6, v7, v8, v9, v10, v11, v12, v13]) v0 v1 v2 v3 v4 v5 v6 v7 v8 v9 v10 v11 v12 v13) : CT Try.prog T.fns (pres pre) 26 s26 :=
  T.ctq (F := ⟨c26, []⟩) (fuel := 250) vc26 Try.checked.mixed hs ht hg hC Try.func26 I M (fun _ h _ => h) fun xs hx hp => by
    match xs, hx, hp with
    | [v0, v1, v2, v3, v4, v5, v6, v7, v8, v9, v10, v11, v12, v13], hx, hp => rw [q26]; exact h v0 v1 v2 v3 v4 v5 v6 v7 v8 v9 v10 v11 v12 v13 hx.1 hx.2.1 hx.2.2.1 hx.2.2.2.1 hx.2.2.2.2.1 hx.2.2.2.2.2.1 hx.2.2.2.2.2.2.1 hx.2.2.2.2.2.2.2.1 hx.2.2.2.2.2.2.2.2.1 hx.2.2.2.2.2.2.2.2.2.1 hx.2.2.2.2.2.2.2.2.2.2.1 hx.2.2.2.2.2.2.2.2.2.2.2.1 hx.2.2.2.2.2.2.2.2.2.2.2.2.1 hx.2.2.2.2.2.2.2.2.2.2.2.2.2.1 hp

/-- loop.example/g01242/spec.DivNear -/
noncomputable def c25 : Cfg := ⟨Try.prog, [(41, s41), (59, s59), (62, s62)]⟩
def iv25 : List Iv := [⟨0, 1⟩, ⟨0, 4294967295⟩, ⟨0, 4294967295⟩, ⟨0, 4294967295⟩, ⟨0, 4294967295⟩, ⟨0, 4294967295⟩, ⟨0, 4294967295⟩, ⟨0, 1⟩, ⟨0, 4294967295⟩, ⟨0, 4294967295⟩, ⟨0, 4294967295⟩, ⟨0, 4294967295⟩, ⟨0, 4294967295⟩, ⟨0, 4294967295⟩]
def t25 : VC :=
 (.call 41 (.e (.var 0) (.e (.var 1) (.e (.var 2) (.e (.var 3) (.e (.var 4) (.e (.var 5) (.e (.var 6) .nil))))))) 1
 (.ite (.eq (.var 14) (.lit 1))
  (.call 41 (.e (.var 7) (.e (.var 8) (.e (.var 9) (.e (.var 10) (.e (.var 11) (.e (.var 12) (.e (.var 13) .nil))))))) 1
  (.ite (.not (.eq (.var 15) (.lit 1)))
   (.fin (.e (.lit 0) (.e (.lit 0) (.e (.lit 0) (.e (.lit 0) (.e (.lit 0) (.e (.lit 0) (.e (.lit 0) (.e (.lit 1) .nil)))))))))
   (.call 59 (.e (.var 7) (.e (.var 8) (.e (.var 9) (.e (.var 10) (.e (.var 11) (.e (.var 12) (.e (.var 13) .nil))))))) 1
   (.ite (.eq (.var 16) (.lit 0))
    (.fin (.e (.lit 0) (.e (.lit 0) (.e (.lit 0) (.e (.lit 0) (.e (.lit 0) (.e (.lit 0) (.e (.lit 0) (.e (.lit 4) .nil)))))))))
    (.need [(.pre 62 (.e (.var 0) (.e (.var 1) (.e (.var 2) (.e (.var 3) (.e (.var 4) (.e (.var 5) (.e (.var 6) (.e (.var 7) (.e (.var 8) (.e (.var 9) (.e (.var 10) (.e (.var 11) (.e (.var 12) (.e (.var 13) .nil)))))))))))))))]
    (.call 62 (.e (.var 0) (.e (.var 1) (.e (.var 2) (.e (.var 3) (.e (.var 4) (.e (.var 5) (.e (.var 6) (.e (.var 7) (.e (.var 8) (.e (.var 9) (.e (.var 10) (.e (.var 11) (.e (.var 12) (.e (.var 13) .nil)))))))))))))) 7
    (.fin (.e (.var 17) (.e (.var 18) (.e (.var 19) (.e (.var 20) (.e (.var 21) (.e (.var 22) (.e (.var 23) (.e (.lit 0) .nil)))))))))))))))
  (.fin (.e (.lit 0) (.e (.lit 0) (.e (.lit 0) (.e (.lit 0) (.e (.lit 0) (.e (.lit 0) (.e (.lit 0) (.e (.lit 1) .nil)))))))))))
theorem vc25 : vcOfI ⟨c25, []⟩ iv25 250 Try.f25 s25 = t25 := by kernel_rfl
set_option linter.unusedVariables false in
def p25 (T : Tab) (I : Nat → List Int → List Int → Prop) (M : Nat → List Int → List Int → Nat) (pre : Nat → List Int → Prop) (post : List Int → Prop) (v0 v1 v2 v3 v4 v5 v6 v7 v8 v9 v10 v11 v12 v13 : Int) : Prop :=
 ∀ v14 : Int, [v14] = T.out 41 1 [v0, v1, v2, v3, v4, v5, v6] →
 ((decide ((v14 : Int) = 1) = true →
  ∀ v15 : Int, [v15] = T.out 41 1 [v7, v8, v9, v10, v11, v12, v13] →
  (((!decide ((v15 : Int) = 1)) = true →
   post [0, 0, 0, 0, 0, 0, 0, 1]) ∧ ((!decide ((v15 : Int) = 1)) = false →
   ∀ v16 : Int, [v16] = T.out 59 1 [v7, v8, v9, v10, v11, v12, v13] →
   ((decide ((v16 : Int) = 0) = true →
    post [0, 0, 0, 0, 0, 0, 0, 4]) ∧ (decide ((v16 : Int) = 0) = false →
    ((pre 62 [v0, v1, v2, v3, v4, v5, v6, v7, v8, v9, v10, v11, v12, v13]) ∧ ((pre 62 [v0, v1, v2, v3, v4, v5, v6, v7, v8, v9, v10, v11, v12, v13]) →
    ∀ v17 v18 v19 v20 v21 v22 v23 : Int, [v17, v18, v19, v20, v21, v22, v23] = T.out 62 7 [v0, v1, v2, v3, v4, v5, v6, v7, v8, v9, v10, v11, v12, v13] →
    post [v17, v18, v19, v20, v21, v22, v23, 0]))))))) ∧ (decide ((v14 : Int) = 1) = false →
  post [0, 0, 0, 0, 0, 0, 0, 1]))
theorem q25 (T : Tab) (I : Nat → List Int → List Int → Prop) (M : Nat → List Int → List Int → Nat) (pre : Nat → List Int → Prop) (post : List Int → Prop) (v0 v1 v2 v3 v4 v5 v6 v7 v8 v9 v10 v11 v12 v13 : Int) : t25.plain T (presL pre I M) post ⟨[v0, v1, v2, v3, v4, v5, v6, v7, v8, v9, v10, v11, v12, v13], []⟩ = p25 T I M pre post v0 v1 v2 v3 v4 v5 v6 v7 v8 v9 v10 v11 v12 v13 := by kernel_rfl
theorem k25 (T : Tab) (I : Nat → List Int → List Int → Prop) (M : Nat → List Int → List Int → Nat) (pre : Nat → List Int → Prop) (hs : SubSig T c25.sigs) (ht : Tot pre c25.sigs) (hg : T.sig 25 = some s25) (hC : CtAll Try.prog T.fns (pres pre) c25.sigs)
    (h : ∀ (v0 v1 v2 v3 v4 v5 v6 v7 v8 v9 v10 v11 v12 v13 : Int), (0 ≤ v0 ∧ v0 ≤ 1) → (0 ≤ v1 ∧ v1 ≤ 4294967295) → (0 ≤ v2 ∧ v2 ≤ 4294967295) → (0 ≤ v3 ∧ v3 ≤ 4294967295) → (0 ≤ v4 ∧ v4 ≤ 4294967295) → (0 ≤ v5 ∧ v5 ≤ 4294967295) → (0 ≤ v6 ∧ v6 ≤ 4294967295) → (0 ≤ v7 ∧ v7 ≤ 1) → (0 ≤ v8 ∧ v8 ≤ 4294967295) → (0 ≤ v9 ∧ v9 ≤ 4294967295) → (0 ≤ v10 ∧ v10 ≤ 4294967295) → (0 ≤ v11 ∧ v11 ≤ 4294967295) → (0 ≤ v12 ∧ v12 ≤ 4294967295) → (0 ≤ v13 ∧ v13 ≤ 4294967295) → pre 25 [v0, v1, v2, v3, v4, v5, v6, v7, v8, v9, v10, v11, v12, v13] → p25 T I M pre (fun ys => ys = T.fn 25 [v0, v1, v2, v3, v4, v5, v6, v7, v8, v9, v10, v11, v12, v13]) v0 v1 v2 v3 v4 v5 v6 v7 v8 v9 v10 v11 v12 v13) : CT Try.prog T.fns (pres pre) 25 s25 :=
  T.ctq (F := ⟨c25, []⟩) (fuel := 250) vc25 Try.checked.mixed hs ht hg hC Try.func25 I M (fun _ h _ => h) fun xs hx hp => by
    match xs, hx, hp with
    | [v0, v1, v2, v3, v4, v5, v6, v7, v8, v9, v10, v11, v12, v13], hx, hp => rw [q25]; exact h v0 v1 v2 v3 v4 v5 v6 v7 v8 v9 v10 v11 v12 v13 hx.1 hx.2.1 hx.2.2.1 hx.2.2.2.1 hx.2.2.2.2.1 hx.2.2.2.2.2.1 hx.2.2.2.2.2.2.1 hx.2.2.2.2.2.2.2.1 hx.2.2.2.2.2.2.2.2.1 hx.2.2.2.2.2.2.2.2.2.1 hx.2.2.2.2.2.2.2.2.2.2.1 hx.2.2.2.2.2.2.2.2.2.2.2.1 hx.2.2.2.2.2.2.2.2.2.2.2.2.1 hx.2.2.2.2.2.2.2.2.2.2.2.2.2.1 hp

end Go.Proofs.Ytmlmdicdblgcfaa.Sx

namespace Go.Proofs.Ytmlmdicdblgcfaa.Sx
open Go Go.RowKit
/-- loop.example/g01242/spec.l01DivNear -/
noncomputable def c62 : Cfg := ⟨Try.prog, [(60, s60), (90, s90), (93, s93), (67, s67), (74, s74)]⟩
def iv62 : List Iv := [⟨0, 1⟩, ⟨0, 4294967295⟩, ⟨0, 4294967295⟩, ⟨0, 4294967295⟩, ⟨0, 4294967295⟩, ⟨0, 4294967295⟩, ⟨0, 4294967295⟩, ⟨0, 1⟩, ⟨0, 4294967295⟩, ⟨0, 4294967295⟩, ⟨0, 4294967295⟩, ⟨0, 4294967295⟩, ⟨0, 4294967295⟩, ⟨0, 4294967295⟩]
def t62 : VC :=
 (.need [(.pre 60 (.e (.var 0) (.e (.var 1) (.e (.var 2) (.e (.var 3) (.e (.var 4) (.e (.var 5) (.e (.var 6) (.e (.var 7) (.e (.var 8) (.e (.var 9) (.e (.var 10) (.e (.var 11) (.e (.var 12) (.e (.var 13) .nil)))))))))))))))]
 (.call 60 (.e (.var 0) (.e (.var 1) (.e (.var 2) (.e (.var 3) (.e (.var 4) (.e (.var 5) (.e (.var 6) (.e (.var 7) (.e (.var 8) (.e (.var 9) (.e (.var 10) (.e (.var 11) (.e (.var 12) (.e (.var 13) .nil)))))))))))))) 14
 (.call 90 (.e (.var 8) (.e (.var 9) (.e (.var 10) (.e (.var 11) (.e (.var 12) (.e (.var 13) (.e (.var 22) (.e (.var 23) (.e (.var 24) (.e (.var 25) (.e (.var 26) (.e (.var 27) .nil)))))))))))) 6
 (.call 93 (.e (.var 22) (.e (.var 23) (.e (.var 24) (.e (.var 25) (.e (.var 26) (.e (.var 27) (.e (.var 28) (.e (.var 29) (.e (.var 30) (.e (.var 31) (.e (.var 32) (.e (.var 33) .nil)))))))))))) 1
 (.ite (.le (.lit 0) (.var 34))
  (.call 67 (.e (.lit 1) .nil) 7
  (.call 74 (.e (.var 14) (.e (.var 15) (.e (.var 16) (.e (.var 17) (.e (.var 18) (.e (.var 19) (.e (.var 20) (.e (.var 35) (.e (.var 36) (.e (.var 37) (.e (.var 38) (.e (.var 39) (.e (.var 40) (.e (.var 41) .nil)))))))))))))) 8
  (.fin (.e (.var 42) (.e (.var 43) (.e (.var 44) (.e (.var 45) (.e (.var 46) (.e (.var 47) (.e (.var 48) .nil))))))))))
  (.fin (.e (.var 14) (.e (.var 15) (.e (.var 16) (.e (.var 17) (.e (.var 18) (.e (.var 19) (.e (.var 20) .nil)))))))))))))
theorem vc62 : vcOfI ⟨c62, []⟩ iv62 250 Try.f62 s62 = t62 := by kernel_rfl
set_option linter.unusedVariables false in
def p62 (T : Tab) (I : Nat → List Int → List Int → Prop) (M : Nat → List Int → List Int → Nat) (pre : Nat → List Int → Prop) (post : List Int → Prop) (v0 v1 v2 v3 v4 v5 v6 v7 v8 v9 v10 v11 v12 v13 : Int) : Prop :=
 ((pre 60 [v0, v1, v2, v3, v4, v5, v6, v7, v8, v9, v10, v11, v12, v13]) ∧ ((pre 60 [v0, v1, v2, v3, v4, v5, v6, v7, v8, v9, v10, v11, v12, v13]) →
 ∀ v14 v15 v16 v17 v18 v19 v20 v21 v22 v23 v24 v25 v26 v27 : Int, [v14, v15, v16, v17, v18, v19, v20, v21, v22, v23, v24, v25, v26, v27] = T.out 60 14 [v0, v1, v2, v3, v4, v5, v6, v7, v8, v9, v10, v11, v12, v13] →
 ∀ v28 v29 v30 v31 v32 v33 : Int, [v28, v29, v30, v31, v32, v33] = T.out 90 6 [v8, v9, v10, v11, v12, v13, v22, v23, v24, v25, v26, v27] →
 ∀ v34 : Int, [v34] = T.out 93 1 [v22, v23, v24, v25, v26, v27, v28, v29, v30, v31, v32, v33] →
 ((decide ((0 : Int) ≤ v34) = true →
  ∀ v35 v36 v37 v38 v39 v40 v41 : Int, [v35, v36, v37, v38, v39, v40, v41] = T.out 67 7 [1] →
  ∀ v42 v43 v44 v45 v46 v47 v48 v49 : Int, [v42, v43, v44, v45, v46, v47, v48, v49] = T.out 74 8 [v14, v15, v16, v17, v18, v19, v20, v35, v36, v37, v38, v39, v40, v41] →
  post [v42, v43, v44, v45, v46, v47, v48]) ∧ (decide ((0 : Int) ≤ v34) = false →
  post [v14, v15, v16, v17, v18, v19, v20]))))
theorem q62 (T : Tab) (I : Nat → List Int → List Int → Prop) (M : Nat → List Int → List Int → Nat) (pre : Nat → List Int → Prop) (post : List Int → Prop) (v0 v1 v2 v3 v4 v5 v6 v7 v8 v9 v10 v11 v12 v13 : Int) : t62.plain T (presL pre I M) post ⟨[v0, v1, v2, v3, v4, v5, v6, v7, v8, v9, v10, v11, v12, v13], []⟩ = p62 T I M pre post v0 v1 v2 v3 v4 v5 v6 v7 v8 v9 v10 v11 v12 v13 := by kernel_rfl
theorem k62 (T : Tab) (I : Nat → List Int → List Int → Prop) (M : Nat → List Int → List Int → Nat) (pre : Nat → List Int → Prop) (hs : SubSig T c62.sigs) (ht : Tot pre c62.sigs) (hg : T.sig 62 = some s62) (hC : CtAll Try.prog T.fns (pres pre) c62.sigs) (hi : ∀ xs, pre 62 xs → allHas iv62 xs)
    (h : ∀ (v0 v1 v2 v3 v4 v5 v6 v7 v8 v9 v10 v11 v12 v13 : Int), (0 ≤ v0 ∧ v0 ≤ 1) → (0 ≤ v1 ∧ v1 ≤ 4294967295) → (0 ≤ v2 ∧ v2 ≤ 4294967295) → (0 ≤ v3 ∧ v3 ≤ 4294967295) → (0 ≤ v4 ∧ v4 ≤ 4294967295) → (0 ≤ v5 ∧ v5 ≤ 4294967295) → (0 ≤ v6 ∧ v6 ≤ 4294967295) → (0 ≤ v7 ∧ v7 ≤ 1) → (0 ≤ v8 ∧ v8 ≤ 4294967295) → (0 ≤ v9 ∧ v9 ≤ 4294967295) → (0 ≤ v10 ∧ v10 ≤ 4294967295) → (0 ≤ v11 ∧ v11 ≤ 4294967295) → (0 ≤ v12 ∧ v12 ≤ 4294967295) → (0 ≤ v13 ∧ v13 ≤ 4294967295) → pre 62 [v0, v1, v2, v3, v4, v5, v6, v7, v8, v9, v10, v11, v12, v13] → p62 T I M pre (fun ys => ys = T.fn 62 [v0, v1, v2, v3, v4, v5, v6, v7, v8, v9, v10, v11, v12, v13]) v0 v1 v2 v3 v4 v5 v6 v7 v8 v9 v10 v11 v12 v13) : CT Try.prog T.fns (pres pre) 62 s62 :=
  T.ctq (F := ⟨c62, []⟩) (fuel := 250) vc62 Try.checked.mixed hs ht hg hC Try.func62 I M (fun xs _ h => hi xs h) fun xs hx hp => by
    match xs, hx, hp with
    | [v0, v1, v2, v3, v4, v5, v6, v7, v8, v9, v10, v11, v12, v13], hx, hp => rw [q62]; exact h v0 v1 v2 v3 v4 v5 v6 v7 v8 v9 v10 v11 v12 v13 hx.1 hx.2.1 hx.2.2.1 hx.2.2.2.1 hx.2.2.2.2.1 hx.2.2.2.2.2.1 hx.2.2.2.2.2.2.1 hx.2.2.2.2.2.2.2.1 hx.2.2.2.2.2.2.2.2.1 hx.2.2.2.2.2.2.2.2.2.1 hx.2.2.2.2.2.2.2.2.2.2.1 hx.2.2.2.2.2.2.2.2.2.2.2.1 hx.2.2.2.2.2.2.2.2.2.2.2.2.1 hx.2.2.2.2.2.2.2.2.2.2.2.2.2.1 hp

/-- loop.example/g01242/laws.FnExactRootWide -/
noncomputable def c8 : Cfg := ⟨Try.prog, [(16, s16), (27, s27), (28, s28), (18, s18)]⟩
def iv8 : List Iv := [⟨0, 1⟩, ⟨0, 4294967295⟩, ⟨0, 4294967295⟩, ⟨0, 4294967295⟩, ⟨0, 4294967295⟩, ⟨0, 4294967295⟩, ⟨0, 4294967295⟩]
def t8 : VC :=
 (.call 16 (.e (.var 0) (.e (.var 1) (.e (.var 2) (.e (.var 3) (.e (.var 4) (.e (.var 5) (.e (.var 6) .nil))))))) 7
 (.call 27 (.e (.var 7) (.e (.var 8) (.e (.var 9) (.e (.var 10) (.e (.var 11) (.e (.var 12) (.e (.var 13) .nil))))))) 8
 (.call 16 (.e (.var 0) (.e (.var 1) (.e (.var 2) (.e (.var 3) (.e (.var 4) (.e (.var 5) (.e (.var 6) .nil))))))) 7
 (.call 28 (.e (.var 22) (.e (.var 23) (.e (.var 24) (.e (.var 25) (.e (.var 26) (.e (.var 27) (.e (.var 28) .nil))))))) 8
 (.call 18 (.e (.var 29) (.e (.var 30) (.e (.var 31) (.e (.var 32) (.e (.var 33) (.e (.var 34) (.e (.var 35) (.e (.var 14) (.e (.var 15) (.e (.var 16) (.e (.var 17) (.e (.var 18) (.e (.var 19) (.e (.var 20) .nil)))))))))))))) 1
 (.ite (.eq (.var 37) (.lit 1))
  (.ite (.not (.eq (.var 36) (.var 21)))
   (.fin (.e (.lit 0) .nil))
   (.fin (.e (.lit 1) .nil)))
  (.fin (.e (.lit 0) .nil))))))))
theorem vc8 : vcOfI ⟨c8, []⟩ iv8 250 Try.f8 s8 = t8 := by kernel_rfl
set_option linter.unusedVariables false in
def p8 (T : Tab) (I : Nat → List Int → List Int → Prop) (M : Nat → List Int → List Int → Nat) (pre : Nat → List Int → Prop) (post : List Int → Prop) (v0 v1 v2 v3 v4 v5 v6 : Int) : Prop :=
 ∀ v7 v8 v9 v10 v11 v12 v13 : Int, [v7, v8, v9, v10, v11, v12, v13] = T.out 16 7 [v0, v1, v2, v3, v4, v5, v6] →
 ∀ v14 v15 v16 v17 v18 v19 v20 v21 : Int, [v14, v15, v16, v17, v18, v19, v20, v21] = T.out 27 8 [v7, v8, v9, v10, v11, v12, v13] →
 ∀ v22 v23 v24 v25 v26 v27 v28 : Int, [v22, v23, v24, v25, v26, v27, v28] = T.out 16 7 [v0, v1, v2, v3, v4, v5, v6] →
 ∀ v29 v30 v31 v32 v33 v34 v35 v36 : Int, [v29, v30, v31, v32, v33, v34, v35, v36] = T.out 28 8 [v22, v23, v24, v25, v26, v27, v28] →
 ∀ v37 : Int, [v37] = T.out 18 1 [v29, v30, v31, v32, v33, v34, v35, v14, v15, v16, v17, v18, v19, v20] →
 ((decide ((v37 : Int) = 1) = true →
  (((!decide ((v36 : Int) = v21)) = true →
   post [0]) ∧ ((!decide ((v36 : Int) = v21)) = false →
   post [1]))) ∧ (decide ((v37 : Int) = 1) = false →
  post [0]))
theorem q8 (T : Tab) (I : Nat → List Int → List Int → Prop) (M : Nat → List Int → List Int → Nat) (pre : Nat → List Int → Prop) (post : List Int → Prop) (v0 v1 v2 v3 v4 v5 v6 : Int) : t8.plain T (presL pre I M) post ⟨[v0, v1, v2, v3, v4, v5, v6], []⟩ = p8 T I M pre post v0 v1 v2 v3 v4 v5 v6 := by kernel_rfl
theorem k8 (T : Tab) (I : Nat → List Int → List Int → Prop) (M : Nat → List Int → List Int → Nat) (pre : Nat → List Int → Prop) (hs : SubSig T c8.sigs) (ht : Tot pre c8.sigs) (hg : T.sig 8 = some s8) (hC : CtAll Try.prog T.fns (pres pre) c8.sigs)
    (h : ∀ (v0 v1 v2 v3 v4 v5 v6 : Int), (0 ≤ v0 ∧ v0 ≤ 1) → (0 ≤ v1 ∧ v1 ≤ 4294967295) → (0 ≤ v2 ∧ v2 ≤ 4294967295) → (0 ≤ v3 ∧ v3 ≤ 4294967295) → (0 ≤ v4 ∧ v4 ≤ 4294967295) → (0 ≤ v5 ∧ v5 ≤ 4294967295) → (0 ≤ v6 ∧ v6 ≤ 4294967295) → pre 8 [v0, v1, v2, v3, v4, v5, v6] → p8 T I M pre (fun ys => ys = T.fn 8 [v0, v1, v2, v3, v4, v5, v6]) v0 v1 v2 v3 v4 v5 v6) : CT Try.prog T.fns (pres pre) 8 s8 :=
  T.ctq (F := ⟨c8, []⟩) (fuel := 250) vc8 Try.checked.mixed hs ht hg hC Try.func8 I M (fun _ h _ => h) fun xs hx hp => by
    match xs, hx, hp with
    | [v0, v1, v2, v3, v4, v5, v6], hx, hp => rw [q8]; exact h v0 v1 v2 v3 v4 v5 v6 hx.1 hx.2.1 hx.2.2.1 hx.2.2.2.1 hx.2.2.2.2.1 hx.2.2.2.2.2.1 hx.2.2.2.2.2.2.1 hp

/-- loop.example/g01242/impl.RootWide -/
noncomputable def c28 : Cfg := ⟨Try.prog, [(44, s44), (66, s66), (58, s58)]⟩
def iv28 : List Iv := [⟨0, 1⟩, ⟨0, 4294967295⟩, ⟨0, 4294967295⟩, ⟨0, 4294967295⟩, ⟨0, 4294967295⟩, ⟨0, 4294967295⟩, ⟨0, 4294967295⟩]
def t28 : VC :=
 (.call 44 (.e (.var 0) (.e (.var 1) (.e (.var 2) (.e (.var 3) (.e (.var 4) (.e (.var 5) (.e (.var 6) .nil))))))) 1
 (.ite (.not (.eq (.var 7) (.lit 1)))
  (.fin (.e (.lit 0) (.e (.lit 0) (.e (.lit 0) (.e (.lit 0) (.e (.lit 0) (.e (.lit 0) (.e (.lit 0) (.e (.lit 1) .nil)))))))))
  (.ite (.eq (.var 0) (.lit 1))
   (.fin (.e (.lit 0) (.e (.lit 0) (.e (.lit 0) (.e (.lit 0) (.e (.lit 0) (.e (.lit 0) (.e (.lit 0) (.e (.lit 2) .nil)))))))))
   (.call 66 (.e (.var 1) (.e (.var 2) (.e (.var 3) (.e (.var 4) (.e (.var 5) (.e (.var 6) .nil)))))) 6
   (.call 58 (.e (.lit 0) (.e (.var 8) (.e (.var 9) (.e (.var 10) (.e (.var 11) (.e (.var 12) (.e (.var 13) .nil))))))) 7
   (.fin (.e (.var 14) (.e (.var 15) (.e (.var 16) (.e (.var 17) (.e (.var 18) (.e (.var 19) (.e (.var 20) (.e (.lit 0) .nil))))))))))))))
theorem vc28 : vcOfI ⟨c28, []⟩ iv28 250 Try.f28 s28 = t28 := by kernel_rfl
set_option linter.unusedVariables false in
def p28 (T : Tab) (I : Nat → List Int → List Int → Prop) (M : Nat → List Int → List Int → Nat) (pre : Nat → List Int → Prop) (post : List Int → Prop) (v0 v1 v2 v3 v4 v5 v6 : Int) : Prop :=
 ∀ v7 : Int, [v7] = T.out 44 1 [v0, v1, v2, v3, v4, v5, v6] →
 (((!decide ((v7 : Int) = 1)) = true →
  post [0, 0, 0, 0, 0, 0, 0, 1]) ∧ ((!decide ((v7 : Int) = 1)) = false →
  ((decide ((v0 : Int) = 1) = true →
   post [0, 0, 0, 0, 0, 0, 0, 2]) ∧ (decide ((v0 : Int) = 1) = false →
   ∀ v8 v9 v10 v11 v12 v13 : Int, [v8, v9, v10, v11, v12, v13] = T.out 66 6 [v1, v2, v3, v4, v5, v6] →
   ∀ v14 v15 v16 v17 v18 v19 v20 : Int, [v14, v15, v16, v17, v18, v19, v20] = T.out 58 7 [0, v8, v9, v10, v11, v12, v13] →
   post [v14, v15, v16, v17, v18, v19, v20, 0]))))
theorem q28 (T : Tab) (I : Nat → List Int → List Int → Prop) (M : Nat → List Int → List Int → Nat) (pre : Nat → List Int → Prop) (post : List Int → Prop) (v0 v1 v2 v3 v4 v5 v6 : Int) : t28.plain T (presL pre I M) post ⟨[v0, v1, v2, v3, v4, v5, v6], []⟩ = p28 T I M pre post v0 v1 v2 v3 v4 v5 v6 := by kernel_rfl
theorem k28 (T : Tab) (I : Nat → List Int → List Int → Prop) (M : Nat → List Int → List Int → Nat) (pre : Nat → List Int → Prop) (hs : SubSig T c28.sigs) (ht : Tot pre c28.sigs) (hg : T.sig 28 = some s28) (hC : CtAll Try.prog T.fns (pres pre) c28.sigs)
    (h : ∀ (v0 v1 v2 v3 v4 v5 v6 : Int), (0 ≤ v0 ∧ v0 ≤ 1) → (0 ≤ v1 ∧ v1 ≤ 4294967295) → (0 ≤ v2 ∧ v2 ≤ 4294967295) → (0 ≤ v3 ∧ v3 ≤ 4294967295) → (0 ≤ v4 ∧ v4 ≤ 4294967295) → (0 ≤ v5 ∧ v5 ≤ 4294967295) → (0 ≤ v6 ∧ v6 ≤ 4294967295) → pre 28 [v0, v1, v2, v3, v4, v5, v6] → p28 T I M pre (fun ys => ys = T.fn 28 [v0, v1, v2, v3, v4, v5, v6]) v0 v1 v2 v3 v4 v5 v6) : CT Try.prog T.fns (pres pre) 28 s28 :=
  T.ctq (F := ⟨c28, []⟩) (fuel := 250) vc28 Try.checked.mixed hs ht hg hC Try.func28 I M (fun _ h _ => h) fun xs hx hp => by
    match xs, hx, hp with
    | [v0, v1, v2, v3, v4, v5, v6], hx, hp => rw [q28]; exact h v0 v1 v2 v3 v4 v5 v6 hx.1 hx.2.1 hx.2.2.1 hx.2.2.2.1 hx.2.2.2.2.1 hx.2.2.2.2.2.1 hx.2.2.2.2.2.2.1 hp

/-- loop.example/g01242/spec.RootWide -/
noncomputable def c27 : Cfg := ⟨Try.prog, [(41, s41), (65, s65)]⟩
def iv27 : List Iv := [⟨0, 1⟩, ⟨0, 4294967295⟩, ⟨0, 4294967295⟩, ⟨0, 4294967295⟩, ⟨0, 4294967295⟩, ⟨0, 4294967295⟩, ⟨0, 4294967295⟩]
def t27 : VC :=
 (.call 41 (.e (.var 0) (.e (.var 1) (.e (.var 2) (.e (.var 3) (.e (.var 4) (.e (.var 5) (.e (.var 6) .nil))))))) 1
 (.ite (.not (.eq (.var 7) (.lit 1)))
  (.fin (.e (.lit 0) (.e (.lit 0) (.e (.lit 0) (.e (.lit 0) (.e (.lit 0) (.e (.lit 0) (.e (.lit 0) (.e (.lit 1) .nil)))))))))
  (.ite (.eq (.var 0) (.lit 1))
   (.fin (.e (.lit 0) (.e (.lit 0) (.e (.lit 0) (.e (.lit 0) (.e (.lit 0) (.e (.lit 0) (.e (.lit 0) (.e (.lit 2) .nil)))))))))
   (.need [(.pre 65 (.e (.var 0) (.e (.var 1) (.e (.var 2) (.e (.var 3) (.e (.var 4) (.e (.var 5) (.e (.var 6) .nil))))))))]
   (.call 65 (.e (.var 0) (.e (.var 1) (.e (.var 2) (.e (.var 3) (.e (.var 4) (.e (.var 5) (.e (.var 6) .nil))))))) 7
   (.fin (.e (.var 8) (.e (.var 9) (.e (.var 10) (.e (.var 11) (.e (.var 12) (.e (.var 13) (.e (.var 14) (.e (.lit 0) .nil))))))))))))))
theorem vc27 : vcOfI ⟨c27, []⟩ iv27 250 Try.f27 s27 = t27 := by kernel_rfl
set_option linter.unusedVariables false in
def p27 (T : Tab) (I : Nat → List Int → List Int → Prop) (M : Nat → List Int → List Int → Nat) (pre : Nat → List Int → Prop) (post : List Int → Prop) (v0 v1 v2 v3 v4 v5 v6 : Int) : Prop :=
 ∀ v7 : Int, [v7] = T.out 41 1 [v0, v1, v2, v3, v4, v5, v6] →
 (((!decide ((v7 : Int) = 1)) = true →
  post [0, 0, 0, 0, 0, 0, 0, 1]) ∧ ((!decide ((v7 : Int) = 1)) = false →
  ((decide ((v0 : Int) = 1) = true →
   post [0, 0, 0, 0, 0, 0, 0, 2]) ∧ (decide ((v0 : Int) = 1) = false →
   ((pre 65 [v0, v1, v2, v3, v4, v5, v6]) ∧ ((pre 65 [v0, v1, v2, v3, v4, v5, v6]) →
   ∀ v8 v9 v10 v11 v12 v13 v14 : Int, [v8, v9, v10, v11, v12, v13, v14] = T.out 65 7 [v0, v1, v2, v3, v4, v5, v6] →
   post [v8, v9, v10, v11, v12, v13, v14, 0]))))))
theorem q27 (T : Tab) (I : Nat → List Int → List Int → Prop) (M : Nat → List Int → List Int → Nat) (pre : Nat → List Int → Prop) (post : List Int → Prop) (v0 v1 v2 v3 v4 v5 v6 : Int) : t27.plain T (presL pre I M) post ⟨[v0, v1, v2, v3, v4, v5, v6], []⟩ = p27 T I M pre post v0 v1 v2 v3 v4 v5 v6 := by kernel_rfl
theorem k27 (T : Tab) (I : Nat → List Int → List Int → Prop) (M : Nat → List Int → List Int → Nat) (pre : Nat → List Int → Prop) (hs : SubSig T c27.sigs) (ht : Tot pre c27.sigs) (hg : T.sig 27 = some s27) (hC : CtAll Try.prog T.fns (pres pre) c27.sigs)
    (h : ∀ (v0 v1 v2 v3 v4 v5 v6 : Int), (0 ≤ v0 ∧ v0 ≤ 1) → (0 ≤ v1 ∧ v1 ≤ 4294967295) → (0 ≤ v2 ∧ v2 ≤ 4294967295) → (0 ≤ v3 ∧ v3 ≤ 4294967295) → (0 ≤ v4 ∧ v4 ≤ 4294967295) → (0 ≤ v5 ∧ v5 ≤ 4294967295) → (0 ≤ v6 ∧ v6 ≤ 4294967295) → pre 27 [v0, v1, v2, v3, v4, v5, v6] → p27 T I M pre (fun ys => ys = T.fn 27 [v0, v1, v2, v3, v4, v5, v6]) v0 v1 v2 v3 v4 v5 v6) : CT Try.prog T.fns (pres pre) 27 s27 :=
  T.ctq (F := ⟨c27, []⟩) (fuel := 250) vc27 Try.checked.mixed hs ht hg hC Try.func27 I M (fun _ h _ => h) fun xs hx hp => by
    match xs, hx, hp with
    | [v0, v1, v2, v3, v4, v5, v6], hx, hp => rw [q27]; exact h v0 v1 v2 v3 v4 v5 v6 hx.1 hx.2.1 hx.2.2.1 hx.2.2.2.1 hx.2.2.2.2.1 hx.2.2.2.2.2.1 hx.2.2.2.2.2.2.1 hp

/-- loop.example/g01242/spec.l01Root -/
noncomputable def c65 : Cfg := ⟨Try.prog, [(94, s94), (67, s67), (49, s49), (74, s74), (42, s42), (80, s80)]⟩
def iv65 : List Iv := [⟨0, 1⟩, ⟨0, 4294967295⟩, ⟨0, 4294967295⟩, ⟨0, 4294967295⟩, ⟨0, 4294967295⟩, ⟨0, 4294967295⟩, ⟨0, 4294967295⟩]
def t65 : VC :=
 (.call 94 (.e (.var 1) (.e (.var 2) (.e (.var 3) (.e (.var 4) (.e (.var 5) (.e (.var 6) .nil)))))) 1
 (.bind (.div (.add (.var 7) (.lit 1)) (.lit 2))
 (.loop 0 [(.var 8), (.lit 0), (.lit 0), (.lit 0), (.lit 0), (.lit 0), (.lit 0), (.lit 0)] [⟨(-1), 96⟩, ⟨0, 1⟩, ⟨0, 4294967295⟩, ⟨0, 4294967295⟩, ⟨0, 4294967295⟩, ⟨0, 4294967295⟩, ⟨0, 4294967295⟩, ⟨0, 4294967295⟩]
  (.ite (.le (.lit 0) (.var 9))
   (.call 67 (.e (.lit 1) .nil) 7
   (.need [(.pre 49 (.e (.var 17) (.e (.var 18) (.e (.var 19) (.e (.var 20) (.e (.var 21) (.e (.var 22) (.e (.var 23) (.e (.var 9) .nil)))))))))]
   (.call 49 (.e (.var 17) (.e (.var 18) (.e (.var 19) (.e (.var 20) (.e (.var 21) (.e (.var 22) (.e (.var 23) (.e (.var 9) .nil)))))))) 8
   (.call 74 (.e (.var 10) (.e (.var 11) (.e (.var 12) (.e (.var 13) (.e (.var 14) (.e (.var 15) (.e (.var 16) (.e (.var 24) (.e (.var 25) (.e (.var 26) (.e (.var 27) (.e (.var 28) (.e (.var 29) (.e (.var 30) .nil)))))))))))))) 8
   (.ite (.eq (.var 31) (.lit 0))
    (.ite (.not (.eq (.var 39) (.lit 0)))
     (.again 0 9 [⟨(-1), 96⟩, ⟨0, 1⟩, ⟨0, 4294967295⟩, ⟨0, 4294967295⟩, ⟨0, 4294967295⟩, ⟨0, 4294967295⟩, ⟨0, 4294967295⟩, ⟨0, 4294967295⟩] [(.sub (.var 9) (.lit 1)), (.ite (.eq (.var 10) (.lit 1)) (.lit 1) (.lit 0)), (.var 11), (.var 12), (.var 13), (.var 14), (.var 15), (.var 16)])
     (.call 42 (.e (.var 32) (.e (.var 33) (.e (.var 34) (.e (.var 35) (.e (.var 36) (.e (.var 37) (.e (.var 38) (.e (.var 32) (.e (.var 33) (.e (.var 34) (.e (.var 35) (.e (.var 36) (.e (.var 37) (.e (.var 38) .nil)))))))))))))) 8
     (.ite (.eq (.var 47) (.lit 0))
      (.call 80 (.e (.var 40) (.e (.var 41) (.e (.var 42) (.e (.var 43) (.e (.var 44) (.e (.var 45) (.e (.var 46) (.e (.var 0) (.e (.var 1) (.e (.var 2) (.e (.var 3) (.e (.var 4) (.e (.var 5) (.e (.var 6) .nil)))))))))))))) 1
      (.bind (.ite (.or (.and (.le (.var 48) (.lit 0)) (.eq (.var 32) (.lit 1))) (.and (.lt (.lit 0) (.var 48)) (.eq (.var 10) (.lit 1)))) (.lit 1) (.lit 0))
      (.bind (.ite (.le (.var 48) (.lit 0)) (.var 33) (.var 11))
      (.bind (.ite (.le (.var 48) (.lit 0)) (.var 34) (.var 12))
      (.bind (.ite (.le (.var 48) (.lit 0)) (.var 35) (.var 13))
      (.bind (.ite (.le (.var 48) (.lit 0)) (.var 36) (.var 14))
      (.bind (.ite (.le (.var 48) (.lit 0)) (.var 37) (.var 15))
      (.bind (.ite (.le (.var 48) (.lit 0)) (.var 38) (.var 16))
      (.again 0 9 [⟨(-1), 96⟩, ⟨0, 1⟩, ⟨0, 4294967295⟩, ⟨0, 4294967295⟩, ⟨0, 4294967295⟩, ⟨0, 4294967295⟩, ⟨0, 4294967295⟩, ⟨0, 4294967295⟩] [(.sub (.var 9) (.lit 1)), (.ite (.eq (.var 49) (.lit 1)) (.lit 1) (.lit 0)), (.var 50), (.var 51), (.var 52), (.var 53), (.var 54), (.var 55)])))))))))
      (.again 0 9 [⟨(-1), 96⟩, ⟨0, 1⟩, ⟨0, 4294967295⟩, ⟨0, 4294967295⟩, ⟨0, 4294967295⟩, ⟨0, 4294967295⟩, ⟨0, 4294967295⟩, ⟨0, 4294967295⟩] [(.sub (.var 9) (.lit 1)), (.ite (.eq (.var 10) (.lit 1)) (.lit 1) (.lit 0)), (.var 11), (.var 12), (.var 13), (.var 14), (.var 15), (.var 16)]))))
    (.again 0 9 [⟨(-1), 96⟩, ⟨0, 1⟩, ⟨0, 4294967295⟩, ⟨0, 4294967295⟩, ⟨0, 4294967295⟩, ⟨0, 4294967295⟩, ⟨0, 4294967295⟩, ⟨0, 4294967295⟩] [(.sub (.var 9) (.lit 1)), (.ite (.eq (.var 10) (.lit 1)) (.lit 1) (.lit 0)), (.var 11), (.var 12), (.var 13), (.var 14), (.var 15), (.var 16)]))))))
   (.fin (.e (.var 10) (.e (.var 11) (.e (.var 12) (.e (.var 13) (.e (.var 14) (.e (.var 15) (.e (.var 16) .nil))))))))))))
theorem vc65 : vcOfI ⟨c65, [(4, ⟨0, [5], [3], [18, 19, 23, 24, 25, 22, 26, 27, 6, 7, 29, 30, 31, 28, 32, 33, 8, 9, 34, 35, 36, 37, 38, 39, 41, 42, 43, 40, 44, 45, 10, 11, 46, 47, 48, 49, 50, 51, 52, 20, 21], [⟨(-1), 96⟩, ⟨0, 1⟩, ⟨0, 4294967295⟩, ⟨0, 4294967295⟩, ⟨0, 4294967295⟩, ⟨0, 4294967295⟩, ⟨0, 4294967295⟩, ⟨0, 4294967295⟩]⟩)]⟩ iv65 250 Try.f65 s65 = t65 := by kernel_rfl
set_option linter.unusedVariables false in
def p65 (T : Tab) (I : Nat → List Int → List Int → Prop) (M : Nat → List Int → List Int → Nat) (pre : Nat → List Int → Prop) (post : List Int → Prop) (v0 v1 v2 v3 v4 v5 v6 : Int) : Prop :=
 ∀ v7 : Int, [v7] = T.out 94 1 [v1, v2, v3, v4, v5, v6] →
 ∀ v8 : Int, v8 = ((v7 + 1) / 2) →
 ((allHas [⟨(-1), 96⟩, ⟨0, 1⟩, ⟨0, 4294967295⟩, ⟨0, 4294967295⟩, ⟨0, 4294967295⟩, ⟨0, 4294967295⟩, ⟨0, 4294967295⟩, ⟨0, 4294967295⟩] [v8, 0, 0, 0, 0, 0, 0, 0] ∧ I 0 [v0, v1, v2, v3, v4, v5, v6, v7, v8] [v8, 0, 0, 0, 0, 0, 0, 0]) ∧ ∀ v9 v10 v11 v12 v13 v14 v15 v16 : Int, allHas [⟨(-1), 96⟩, ⟨0, 1⟩, ⟨0, 4294967295⟩, ⟨0, 4294967295⟩, ⟨0, 4294967295⟩, ⟨0, 4294967295⟩, ⟨0, 4294967295⟩, ⟨0, 4294967295⟩] [v9, v10, v11, v12, v13, v14, v15, v16] → I 0 [v0, v1, v2, v3, v4, v5, v6, v7, v8] [v9, v10, v11, v12, v13, v14, v15, v16] →
  ((decide ((0 : Int) ≤ v9) = true →
   ∀ v17 v18 v19 v20 v21 v22 v23 : Int, [v17, v18, v19, v20, v21, v22, v23] = T.out 67 7 [1] →
   ((pre 49 [v17, v18, v19, v20, v21, v22, v23, v9]) ∧ ((pre 49 [v17, v18, v19, v20, v21, v22, v23, v9]) →
   ∀ v24 v25 v26 v27 v28 v29 v30 v31 : Int, [v24, v25, v26, v27, v28, v29, v30, v31] = T.out 49 8 [v17, v18, v19, v20, v21, v22, v23, v9] →
   ∀ v32 v33 v34 v35 v36 v37 v38 v39 : Int, [v32, v33, v34, v35, v36, v37, v38, v39] = T.out 74 8 [v10, v11, v12, v13, v14, v15, v16, v24, v25, v26, v27, v28, v29, v30] →
   ((decide ((v31 : Int) = 0) = true →
    (((!decide ((v39 : Int) = 0)) = true →
     (allHas [⟨(-1), 96⟩, ⟨0, 1⟩, ⟨0, 4294967295⟩, ⟨0, 4294967295⟩, ⟨0, 4294967295⟩, ⟨0, 4294967295⟩, ⟨0, 4294967295⟩, ⟨0, 4294967295⟩] [(v9 - 1), (if decide ((v10 : Int) = 1) = true then 1 else 0), v11, v12, v13, v14, v15, v16] ∧ I 0 [v0, v1, v2, v3, v4, v5, v6, v7, v8] [(v9 - 1), (if decide ((v10 : Int) = 1) = true then 1 else 0), v11, v12, v13, v14, v15, v16] ∧ M 0 [v0, v1, v2, v3, v4, v5, v6, v7, v8] [(v9 - 1), (if decide ((v10 : Int) = 1) = true then 1 else 0), v11, v12, v13, v14, v15, v16] < M 0 [v0, v1, v2, v3, v4, v5, v6, v7, v8] [v9, v10, v11, v12, v13, v14, v15, v16])) ∧ ((!decide ((v39 : Int) = 0)) = false →
     ∀ v40 v41 v42 v43 v44 v45 v46 v47 : Int, [v40, v41, v42, v43, v44, v45, v46, v47] = T.out 42 8 [v32, v33, v34, v35, v36, v37, v38, v32, v33, v34, v35, v36, v37, v38] →
     ((decide ((v47 : Int) = 0) = true →
      ∀ v48 : Int, [v48] = T.out 80 1 [v40, v41, v42, v43, v44, v45, v46, v0, v1, v2, v3, v4, v5, v6] →
      ∀ v49 : Int, v49 = (if ((decide ((v48 : Int) ≤ 0) && decide ((v32 : Int) = 1)) || (decide ((0 : Int) < v48) && decide ((v10 : Int) = 1))) = true then 1 else 0) →
      ∀ v50 : Int, v50 = (if decide ((v48 : Int) ≤ 0) = true then v33 else v11) →
      ∀ v51 : Int, v51 = (if decide ((v48 : Int) ≤ 0) = true then v34 else v12) →
      ∀ v52 : Int, v52 = (if decide ((v48 : Int) ≤ 0) = true then v35 else v13) →
      ∀ v53 : Int, v53 = (if decide ((v48 : Int) ≤ 0) = true then v36 else v14) →
      ∀ v54 : Int, v54 = (if decide ((v48 : Int) ≤ 0) = true then v37 else v15) →
      ∀ v55 : Int, v55 = (if decide ((v48 : Int) ≤ 0) = true then v38 else v16) →
      (allHas [⟨(-1), 96⟩, ⟨0, 1⟩, ⟨0, 4294967295⟩, ⟨0, 4294967295⟩, ⟨0, 4294967295⟩, ⟨0, 4294967295⟩, ⟨0, 4294967295⟩, ⟨0, 4294967295⟩] [(v9 - 1), (if decide ((v49 : Int) = 1) = true then 1 else 0), v50, v51, v52, v53, v54, v55] ∧ I 0 [v0, v1, v2, v3, v4, v5, v6, v7, v8] [(v9 - 1), (if decide ((v49 : Int) = 1) = true then 1 else 0), v50, v51, v52, v53, v54, v55] ∧ M 0 [v0, v1, v2, v3, v4, v5, v6, v7, v8] [(v9 - 1), (if decide ((v49 : Int) = 1) = true then 1 else 0), v50, v51, v52, v53, v54, v55] < M 0 [v0, v1, v2, v3, v4, v5, v6, v7, v8] [v9, v10, v11, v12, v13, v14, v15, v16])) ∧ (decide ((v47 : Int) = 0) = false →
      (allHas [⟨(-1), 96⟩, ⟨0, 1⟩, ⟨0, 4294967295⟩, ⟨0, 4294967295⟩, ⟨0, 4294967295⟩, ⟨0, 4294967295⟩, ⟨0, 4294967295⟩, ⟨0, 4294967295⟩] [(v9 - 1), (if decide ((v10 : Int) = 1) = true then 1 else 0), v11, v12, v13, v14, v15, v16] ∧ I 0 [v0, v1, v2, v3, v4, v5, v6, v7, v8] [(v9 - 1), (if decide ((v10 : Int) = 1) = true then 1 else 0), v11, v12, v13, v14, v15, v16] ∧ M 0 [v0, v1, v2, v3, v4, v5, v6, v7, v8] [(v9 - 1), (if decide ((v10 : Int) = 1) = true then 1 else 0), v11, v12, v13, v14, v15, v16] < M 0 [v0, v1, v2, v3, v4, v5, v6, v7, v8] [v9, v10, v11, v12, v13, v14, v15, v16])))))) ∧ (decide ((v31 : Int) = 0) = false →
    (allHas [⟨(-1), 96⟩, ⟨0, 1⟩, ⟨0, 4294967295⟩, ⟨0, 4294967295⟩, ⟨0, 4294967295⟩, ⟨0, 4294967295⟩, ⟨0, 4294967295⟩, ⟨0, 4294967295⟩] [(v9 - 1), (if decide ((v10 : Int) = 1) = true then 1 else 0), v11, v12, v13, v14, v15, v16] ∧ I 0 [v0, v1, v2, v3, v4, v5, v6, v7, v8] [(v9 - 1), (if decide ((v10 : Int) = 1) = true then 1 else 0), v11, v12, v13, v14, v15, v16] ∧ M 0 [v0, v1, v2, v3, v4, v5, v6, v7, v8] [(v9 - 1), (if decide ((v10 : Int) = 1) = true then 1 else 0), v11, v12, v13, v14, v15, v16] < M 0 [v0, v1, v2, v3, v4, v5, v6, v7, v8] [v9, v10, v11, v12, v13, v14, v15, v16])))))) ∧ (decide ((0 : Int) ≤ v9) = false →
   post [v10, v11, v12, v13, v14, v15, v16])))
theorem q65 (T : Tab) (I : Nat → List Int → List Int → Prop) (M : Nat → List Int → List Int → Nat) (pre : Nat → List Int → Prop) (post : List Int → Prop) (v0 v1 v2 v3 v4 v5 v6 : Int) : t65.plain T (presL pre I M) post ⟨[v0, v1, v2, v3, v4, v5, v6], []⟩ = p65 T I M pre post v0 v1 v2 v3 v4 v5 v6 := by kernel_rfl
theorem k65 (T : Tab) (I : Nat → List Int → List Int → Prop) (M : Nat → List Int → List Int → Nat) (pre : Nat → List Int → Prop) (hs : SubSig T c65.sigs) (ht : Tot pre c65.sigs) (hg : T.sig 65 = some s65) (hC : CtAll Try.prog T.fns (pres pre) c65.sigs) (hi : ∀ xs, pre 65 xs → allHas iv65 xs)
    (h : ∀ (v0 v1 v2 v3 v4 v5 v6 : Int), (0 ≤ v0 ∧ v0 ≤ 1) → (0 ≤ v1 ∧ v1 ≤ 4294967295) → (0 ≤ v2 ∧ v2 ≤ 4294967295) → (0 ≤ v3 ∧ v3 ≤ 4294967295) → (0 ≤ v4 ∧ v4 ≤ 4294967295) → (0 ≤ v5 ∧ v5 ≤ 4294967295) → (0 ≤ v6 ∧ v6 ≤ 4294967295) → pre 65 [v0, v1, v2, v3, v4, v5, v6] → p65 T I M pre (fun ys => ys = T.fn 65 [v0, v1, v2, v3, v4, v5, v6]) v0 v1 v2 v3 v4 v5 v6) : CT Try.prog T.fns (pres pre) 65 s65 :=
  T.ctq (F := ⟨c65, [(4, ⟨0, [5], [3], [18, 19, 23, 24, 25, 22, 26, 27, 6, 7, 29, 30, 31, 28, 32, 33, 8, 9, 34, 35, 36, 37, 38, 39, 41, 42, 43, 40, 44, 45, 10, 11, 46, 47, 48, 49, 50, 51, 52, 20, 21], [⟨(-1), 96⟩, ⟨0, 1⟩, ⟨0, 4294967295⟩, ⟨0, 4294967295⟩, ⟨0, 4294967295⟩, ⟨0, 4294967295⟩, ⟨0, 4294967295⟩, ⟨0, 4294967295⟩]⟩)]⟩) (fuel := 250) vc65 Try.checked.mixed hs ht hg hC Try.func65 I M (fun xs _ h => hi xs h) fun xs hx hp => by
    match xs, hx, hp with
    | [v0, v1, v2, v3, v4, v5, v6], hx, hp => rw [q65]; exact h v0 v1 v2 v3 v4 v5 v6 hx.1 hx.2.1 hx.2.2.1 hx.2.2.2.1 hx.2.2.2.2.1 hx.2.2.2.2.2.1 hx.2.2.2.2.2.2.1 hp

end Go.Proofs.Ytmlmdicdblgcfaa.Sx

namespace Go.Proofs.Ytmlmdicdblgcfaa.Sx
open Go Go.RowKit
/-- (loop.example/g01242/impl.limbs).root -/
noncomputable def c66 : Cfg := ⟨Try.prog, [(50, s50), (51, s51), (52, s52), (61, s61), (77, s77), (54, s54), (56, s56)]⟩
def iv66 : List Iv := [⟨0, 4294967295⟩, ⟨0, 4294967295⟩, ⟨0, 4294967295⟩, ⟨0, 4294967295⟩, ⟨0, 4294967295⟩, ⟨0, 4294967295⟩]
def t66 : VC :=
 (.call 50 (.e (.var 0) (.e (.var 1) (.e (.var 2) (.e (.var 3) (.e (.var 4) (.e (.var 5) .nil)))))) 1
 (.ite (.eq (.var 6) (.lit 1))
  (.fin (.e (.var 0) (.e (.var 1) (.e (.var 2) (.e (.var 3) (.e (.var 4) (.e (.var 5) .nil)))))))
  (.call 51 (.e (.var 0) (.e (.var 1) (.e (.var 2) (.e (.var 3) (.e (.var 4) (.e (.var 5) .nil)))))) 1
  (.need [(.pre 52 (.e (.lit 1) (.e (.lit 0) (.e (.lit 0) (.e (.lit 0) (.e (.lit 0) (.e (.lit 0) (.e (.div (.add (.var 7) (.lit 1)) (.lit 2)) .nil))))))))]
  (.call 52 (.e (.lit 1) (.e (.lit 0) (.e (.lit 0) (.e (.lit 0) (.e (.lit 0) (.e (.lit 0) (.e (.div (.add (.var 7) (.lit 1)) (.lit 2)) .nil))))))) 6
  (.loop 0 [(.var 8), (.var 9), (.var 10), (.var 11), (.var 12), (.var 13)] [⟨0, 4294967295⟩, ⟨0, 4294967295⟩, ⟨0, 4294967295⟩, ⟨0, 4294967295⟩, ⟨0, 4294967295⟩, ⟨0, 4294967295⟩]
   (.need [(.pre 61 (.e (.var 0) (.e (.var 1) (.e (.var 2) (.e (.var 3) (.e (.var 4) (.e (.var 5) (.e (.var 14) (.e (.var 15) (.e (.var 16) (.e (.var 17) (.e (.var 18) (.e (.var 19) .nil)))))))))))))]
   (.call 61 (.e (.var 0) (.e (.var 1) (.e (.var 2) (.e (.var 3) (.e (.var 4) (.e (.var 5) (.e (.var 14) (.e (.var 15) (.e (.var 16) (.e (.var 17) (.e (.var 18) (.e (.var 19) .nil)))))))))))) 12
   (.call 77 (.e (.var 14) (.e (.var 15) (.e (.var 16) (.e (.var 17) (.e (.var 18) (.e (.var 19) (.e (.var 20) (.e (.var 21) (.e (.var 22) (.e (.var 23) (.e (.var 24) (.e (.var 25) .nil)))))))))))) 7
   (.need [(.pre 54 (.e (.var 32) (.e (.var 33) (.e (.var 34) (.e (.var 35) (.e (.var 36) (.e (.var 37) (.e (.lit 1) .nil))))))))]
   (.call 54 (.e (.var 32) (.e (.var 33) (.e (.var 34) (.e (.var 35) (.e (.var 36) (.e (.var 37) (.e (.lit 1) .nil))))))) 6
   (.call 56 (.e (.var 39) (.e (.var 40) (.e (.var 41) (.e (.var 42) (.e (.var 43) (.e (.var 44) (.e (.var 14) (.e (.var 15) (.e (.var 16) (.e (.var 17) (.e (.var 18) (.e (.var 19) .nil)))))))))))) 1
   (.ite (.le (.lit 0) (.var 45))
    (.fin (.e (.var 14) (.e (.var 15) (.e (.var 16) (.e (.var 17) (.e (.var 18) (.e (.var 19) .nil)))))))
    (.again 0 14 [⟨0, 4294967295⟩, ⟨0, 4294967295⟩, ⟨0, 4294967295⟩, ⟨0, 4294967295⟩, ⟨0, 4294967295⟩, ⟨0, 4294967295⟩] [(.var 39), (.var 40), (.var 41), (.var 42), (.var 43), (.var 44)]))))))))))))))
theorem vc66 : vcOfI ⟨c66, [(4, ⟨0, [], [2], [19, 20, 21, 18, 22, 23, 4, 5, 25, 26, 27, 24, 28, 29, 6, 7, 30, 31, 8, 32, 33, 34, 35, 36, 37], [⟨0, 4294967295⟩, ⟨0, 4294967295⟩, ⟨0, 4294967295⟩, ⟨0, 4294967295⟩, ⟨0, 4294967295⟩, ⟨0, 4294967295⟩]⟩)]⟩ iv66 250 Try.f66 s66 = t66 := by kernel_rfl
set_option linter.unusedVariables false in
def p66 (T : Tab) (I : Nat → List Int → List Int → Prop) (M : Nat → List Int → List Int → Nat) (pre : Nat → List Int → Prop) (post : List Int → Prop) (v0 v1 v2 v3 v4 v5 : Int) : Prop :=
 ∀ v6 : Int, [v6] = T.out 50 1 [v0, v1, v2, v3, v4, v5] →
 ((decide ((v6 : Int) = 1) = true →
  post [v0, v1, v2, v3, v4, v5]) ∧ (decide ((v6 : Int) = 1) = false →
  ∀ v7 : Int, [v7] = T.out 51 1 [v0, v1, v2, v3, v4, v5] →
  ((pre 52 [1, 0, 0, 0, 0, 0, ((v7 + 1) / 2)]) ∧ ((pre 52 [1, 0, 0, 0, 0, 0, ((v7 + 1) / 2)]) →
  ∀ v8 v9 v10 v11 v12 v13 : Int, [v8, v9, v10, v11, v12, v13] = T.out 52 6 [1, 0, 0, 0, 0, 0, ((v7 + 1) / 2)] →
  ((allHas [⟨0, 4294967295⟩, ⟨0, 4294967295⟩, ⟨0, 4294967295⟩, ⟨0, 4294967295⟩, ⟨0, 4294967295⟩, ⟨0, 4294967295⟩] [v8, v9, v10, v11, v12, v13] ∧ I 0 [v0, v1, v2, v3, v4, v5, v6, v7, v8, v9, v10, v11, v12, v13] [v8, v9, v10, v11, v12, v13]) ∧ ∀ v14 v15 v16 v17 v18 v19 : Int, allHas [⟨0, 4294967295⟩, ⟨0, 4294967295⟩, ⟨0, 4294967295⟩, ⟨0, 4294967295⟩, ⟨0, 4294967295⟩, ⟨0, 4294967295⟩] [v14, v15, v16, v17, v18, v19] → I 0 [v0, v1, v2, v3, v4, v5, v6, v7, v8, v9, v10, v11, v12, v13] [v14, v15, v16, v17, v18, v19] →
   ((pre 61 [v0, v1, v2, v3, v4, v5, v14, v15, v16, v17, v18, v19]) ∧ ((pre 61 [v0, v1, v2, v3, v4, v5, v14, v15, v16, v17, v18, v19]) →
   ∀ v20 v21 v22 v23 v24 v25 v26 v27 v28 v29 v30 v31 : Int, [v20, v21, v22, v23, v24, v25, v26, v27, v28, v29, v30, v31] = T.out 61 12 [v0, v1, v2, v3, v4, v5, v14, v15, v16, v17, v18, v19] →
   ∀ v32 v33 v34 v35 v36 v37 v38 : Int, [v32, v33, v34, v35, v36, v37, v38] = T.out 77 7 [v14, v15, v16, v17, v18, v19, v20, v21, v22, v23, v24, v25] →
   ((pre 54 [v32, v33, v34, v35, v36, v37, 1]) ∧ ((pre 54 [v32, v33, v34, v35, v36, v37, 1]) →
   ∀ v39 v40 v41 v42 v43 v44 : Int, [v39, v40, v41, v42, v43, v44] = T.out 54 6 [v32, v33, v34, v35, v36, v37, 1] →
   ∀ v45 : Int, [v45] = T.out 56 1 [v39, v40, v41, v42, v43, v44, v14, v15, v16, v17, v18, v19] →
   ((decide ((0 : Int) ≤ v45) = true →
    post [v14, v15, v16, v17, v18, v19]) ∧ (decide ((0 : Int) ≤ v45) = false →
    (allHas [⟨0, 4294967295⟩, ⟨0, 4294967295⟩, ⟨0, 4294967295⟩, ⟨0, 4294967295⟩, ⟨0, 4294967295⟩, ⟨0, 4294967295⟩] [v39, v40, v41, v42, v43, v44] ∧ I 0 [v0, v1, v2, v3, v4, v5, v6, v7, v8, v9, v10, v11, v12, v13] [v39, v40, v41, v42, v43, v44] ∧ M 0 [v0, v1, v2, v3, v4, v5, v6, v7, v8, v9, v10, v11, v12, v13] [v39, v40, v41, v42, v43, v44] < M 0 [v0, v1, v2, v3, v4, v5, v6, v7, v8, v9, v10, v11, v12, v13] [v14, v15, v16, v17, v18, v19]))))))))))))
theorem q66 (T : Tab) (I : Nat → List Int → List Int → Prop) (M : Nat → List Int → List Int → Nat) (pre : Nat → List Int → Prop) (post : List Int → Prop) (v0 v1 v2 v3 v4 v5 : Int) : t66.plain T (presL pre I M) post ⟨[v0, v1, v2, v3, v4, v5], []⟩ = p66 T I M pre post v0 v1 v2 v3 v4 v5 := by kernel_rfl
theorem k66 (T : Tab) (I : Nat → List Int → List Int → Prop) (M : Nat → List Int → List Int → Nat) (pre : Nat → List Int → Prop) (hs : SubSig T c66.sigs) (ht : Tot pre c66.sigs) (hg : T.sig 66 = some s66) (hC : CtAll Try.prog T.fns (pres pre) c66.sigs)
    (h : ∀ (v0 v1 v2 v3 v4 v5 : Int), (0 ≤ v0 ∧ v0 ≤ 4294967295) → (0 ≤ v1 ∧ v1 ≤ 4294967295) → (0 ≤ v2 ∧ v2 ≤ 4294967295) → (0 ≤ v3 ∧ v3 ≤ 4294967295) → (0 ≤ v4 ∧ v4 ≤ 4294967295) → (0 ≤ v5 ∧ v5 ≤ 4294967295) → pre 66 [v0, v1, v2, v3, v4, v5] → p66 T I M pre (fun ys => ys = T.fn 66 [v0, v1, v2, v3, v4, v5]) v0 v1 v2 v3 v4 v5) : CT Try.prog T.fns (pres pre) 66 s66 :=
  T.ctq (F := ⟨c66, [(4, ⟨0, [], [2], [19, 20, 21, 18, 22, 23, 4, 5, 25, 26, 27, 24, 28, 29, 6, 7, 30, 31, 8, 32, 33, 34, 35, 36, 37], [⟨0, 4294967295⟩, ⟨0, 4294967295⟩, ⟨0, 4294967295⟩, ⟨0, 4294967295⟩, ⟨0, 4294967295⟩, ⟨0, 4294967295⟩]⟩)]⟩) (fuel := 250) vc66 Try.checked.mixed hs ht hg hC Try.func66 I M (fun _ h _ => h) fun xs hx hp => by
    match xs, hx, hp with
    | [v0, v1, v2, v3, v4, v5], hx, hp => rw [q66]; exact h v0 v1 v2 v3 v4 v5 hx.1 hx.2.1 hx.2.2.1 hx.2.2.2.1 hx.2.2.2.2.1 hx.2.2.2.2.2.1 hp

/-- loop.example/g01242/spec.l01Compare -/
noncomputable def c80 : Cfg := ⟨Try.prog, [(93, s93)]⟩
def iv80 : List Iv := [⟨0, 1⟩, ⟨0, 4294967295⟩, ⟨0, 4294967295⟩, ⟨0, 4294967295⟩, ⟨0, 4294967295⟩, ⟨0, 4294967295⟩, ⟨0, 4294967295⟩, ⟨0, 1⟩, ⟨0, 4294967295⟩, ⟨0, 4294967295⟩, ⟨0, 4294967295⟩, ⟨0, 4294967295⟩, ⟨0, 4294967295⟩, ⟨0, 4294967295⟩]
def t80 : VC :=
 (.ite (.eq (.var 0) (.lit 1))
  (.ite (.not (.eq (.var 7) (.lit 1)))
   (.fin (.e (.lit (-1)) .nil))
   (.call 93 (.e (.var 8) (.e (.var 9) (.e (.var 10) (.e (.var 11) (.e (.var 12) (.e (.var 13) (.e (.var 1) (.e (.var 2) (.e (.var 3) (.e (.var 4) (.e (.var 5) (.e (.var 6) .nil)))))))))))) 1
   (.fin (.e (.var 14) .nil))))
  (.ite (.eq (.var 7) (.lit 1))
   (.fin (.e (.lit 1) .nil))
   (.call 93 (.e (.var 1) (.e (.var 2) (.e (.var 3) (.e (.var 4) (.e (.var 5) (.e (.var 6) (.e (.var 8) (.e (.var 9) (.e (.var 10) (.e (.var 11) (.e (.var 12) (.e (.var 13) .nil)))))))))))) 1
   (.fin (.e (.var 14) .nil)))))
theorem vc80 : vcOfI ⟨c80, []⟩ iv80 250 Try.f80 s80 = t80 := by kernel_rfl
set_option linter.unusedVariables false in
def p80 (T : Tab) (I : Nat → List Int → List Int → Prop) (M : Nat → List Int → List Int → Nat) (pre : Nat → List Int → Prop) (post : List Int → Prop) (v0 v1 v2 v3 v4 v5 v6 v7 v8 v9 v10 v11 v12 v13 : Int) : Prop :=
 ((decide ((v0 : Int) = 1) = true →
  (((!decide ((v7 : Int) = 1)) = true →
   post [(-1)]) ∧ ((!decide ((v7 : Int) = 1)) = false →
   ∀ v14 : Int, [v14] = T.out 93 1 [v8, v9, v10, v11, v12, v13, v1, v2, v3, v4, v5, v6] →
   post [v14]))) ∧ (decide ((v0 : Int) = 1) = false →
  ((decide ((v7 : Int) = 1) = true →
   post [1]) ∧ (decide ((v7 : Int) = 1) = false →
   ∀ v14 : Int, [v14] = T.out 93 1 [v1, v2, v3, v4, v5, v6, v8, v9, v10, v11, v12, v13] →
   post [v14]))))
theorem q80 (T : Tab) (I : Nat → List Int → List Int → Prop) (M : Nat → List Int → List Int → Nat) (pre : Nat → List Int → Prop) (post : List Int → Prop) (v0 v1 v2 v3 v4 v5 v6 v7 v8 v9 v10 v11 v12 v13 : Int) : t80.plain T (presL pre I M) post ⟨[v0, v1, v2, v3, v4, v5, v6, v7, v8, v9, v10, v11, v12, v13], []⟩ = p80 T I M pre post v0 v1 v2 v3 v4 v5 v6 v7 v8 v9 v10 v11 v12 v13 := by kernel_rfl
theorem k80 (T : Tab) (I : Nat → List Int → List Int → Prop) (M : Nat → List Int → List Int → Nat) (pre : Nat → List Int → Prop) (hs : SubSig T c80.sigs) (ht : Tot pre c80.sigs) (hg : T.sig 80 = some s80) (hC : CtAll Try.prog T.fns (pres pre) c80.sigs)
    (h : ∀ (v0 v1 v2 v3 v4 v5 v6 v7 v8 v9 v10 v11 v12 v13 : Int), (0 ≤ v0 ∧ v0 ≤ 1) → (0 ≤ v1 ∧ v1 ≤ 4294967295) → (0 ≤ v2 ∧ v2 ≤ 4294967295) → (0 ≤ v3 ∧ v3 ≤ 4294967295) → (0 ≤ v4 ∧ v4 ≤ 4294967295) → (0 ≤ v5 ∧ v5 ≤ 4294967295) → (0 ≤ v6 ∧ v6 ≤ 4294967295) → (0 ≤ v7 ∧ v7 ≤ 1) → (0 ≤ v8 ∧ v8 ≤ 4294967295) → (0 ≤ v9 ∧ v9 ≤ 4294967295) → (0 ≤ v10 ∧ v10 ≤ 4294967295) → (0 ≤ v11 ∧ v11 ≤ 4294967295) → (0 ≤ v12 ∧ v12 ≤ 4294967295) → (0 ≤ v13 ∧ v13 ≤ 4294967295) → pre 80 [v0, v1, v2, v3, v4, v5, v6, v7, v8, v9, v10, v11, v12, v13] → p80 T I M pre (fun ys => ys = T.fn 80 [v0, v1, v2, v3, v4, v5, v6, v7, v8, v9, v10, v11, v12, v13]) v0 v1 v2 v3 v4 v5 v6 v7 v8 v9 v10 v11 v12 v13) : CT Try.prog T.fns (pres pre) 80 s80 :=
  T.ctq (F := ⟨c80, []⟩) (fuel := 250) vc80 Try.checked.mixed hs ht hg hC Try.func80 I M (fun _ h _ => h) fun xs hx hp => by
    match xs, hx, hp with
    | [v0, v1, v2, v3, v4, v5, v6, v7, v8, v9, v10, v11, v12, v13], hx, hp => rw [q80]; exact h v0 v1 v2 v3 v4 v5 v6 v7 v8 v9 v10 v11 v12 v13 hx.1 hx.2.1 hx.2.2.1 hx.2.2.2.1 hx.2.2.2.2.1 hx.2.2.2.2.2.1 hx.2.2.2.2.2.2.1 hx.2.2.2.2.2.2.2.1 hx.2.2.2.2.2.2.2.2.1 hx.2.2.2.2.2.2.2.2.2.1 hx.2.2.2.2.2.2.2.2.2.2.1 hx.2.2.2.2.2.2.2.2.2.2.2.1 hx.2.2.2.2.2.2.2.2.2.2.2.2.1 hx.2.2.2.2.2.2.2.2.2.2.2.2.2.1 hp

/-- loop.example/g01242/laws.FnExactCommonWide -/
noncomputable def c10 : Cfg := ⟨Try.prog, [(16, s16), (31, s31), (32, s32), (18, s18)]⟩
def iv10 : List Iv := [⟨0, 1⟩, ⟨0, 4294967295⟩, ⟨0, 4294967295⟩, ⟨0, 4294967295⟩, ⟨0, 4294967295⟩, ⟨0, 4294967295⟩, ⟨0, 4294967295⟩, ⟨0, 1⟩, ⟨0, 4294967295⟩, ⟨0, 4294967295⟩, ⟨0, 4294967295⟩, ⟨0, 4294967295⟩, ⟨0, 4294967295⟩, ⟨0, 4294967295⟩]
def t10 : VC :=
 (.call 16 (.e (.var 0) (.e (.var 1) (.e (.var 2) (.e (.var 3) (.e (.var 4) (.e (.var 5) (.e (.var 6) .nil))))))) 7
 (.call 16 (.e (.var 7) (.e (.var 8) (.e (.var 9) (.e (.var 10) (.e (.var 11) (.e (.var 12) (.e (.var 13) .nil))))))) 7
 (.call 31 (.e (.var 14) (.e (.var 15) (.e (.var 16) (.e (.var 17) (.e (.var 18) (.e (.var 19) (.e (.var 20) (.e (.var 21) (.e (.var 22) (.e (.var 23) (.e (.var 24) (.e (.var 25) (.e (.var 26) (.e (.var 27) .nil)))))))))))))) 8
 (.call 16 (.e (.var 0) (.e (.var 1) (.e (.var 2) (.e (.var 3) (.e (.var 4) (.e (.var 5) (.e (.var 6) .nil))))))) 7
 (.call 16 (.e (.var 7) (.e (.var 8) (.e (.var 9) (.e (.var 10) (.e (.var 11) (.e (.var 12) (.e (.var 13) .nil))))))) 7
 (.call 32 (.e (.var 36) (.e (.var 37) (.e (.var 38) (.e (.var 39) (.e (.var 40) (.e (.var 41) (.e (.var 42) (.e (.var 43) (.e (.var 44) (.e (.var 45) (.e (.var 46) (.e (.var 47) (.e (.var 48) (.e (.var 49) .nil)))))))))))))) 8
 (.call 18 (.e (.var 50) (.e (.var 51) (.e (.var 52) (.e (.var 53) (.e (.var 54) (.e (.var 55) (.e (.var 56) (.e (.var 28) (.e (.var 29) (.e (.var 30) (.e (.var 31) (.e (.var 32) (.e (.var 33) (.e (.var 34) .nil)))))))))))))) 1
 (.ite (.eq (.var 58) (.lit 1))
  (.ite (.not (.eq (.var 57) (.var 35)))
   (.fin (.e (.lit 0) .nil))
   (.fin (.e (.lit 1) .nil)))
  (.fin (.e (.lit 0) .nil))))))))))
theorem vc10 : vcOfI ⟨c10, []⟩ iv10 250 Try.f10 s10 = t10 := by kernel_rfl
set_option linter.unusedVariables false in
def p10 (T : Tab) (I : Nat → List Int → List Int → Prop) (M : Nat → List Int → List Int → Nat) (pre : Nat → List Int → Prop) (post : List Int → Prop) (v0 v1 v2 v3 v4 v5 v6 v7 v8 v9 v10 v11 v12 v13 : Int) : Prop :=
 ∀ v14 v15 v16 v17 v18 v19 v20 : Int, [v14, v15, v16, v17, v18, v19, v20] = T.out 16 7 [v0, v1, v2, v3, v4, v5, v6] →
 ∀ v21 v22 v23 v24 v25 v26 v27 : Int, [v21, v22, v23, v24, v25, v26, v27] = T.out 16 7 [v7, v8, v9, v10, v11, v12, v13] →
 ∀ v28 v29 v30 v31 v32 v33 v34 v35 : Int, [v28, v29, v30, v31, v32, v33, v34, v35] = T.out 31 8 [v14, v15, v16, v17, v18, v19, v20, v21, v22, v23, v24, v25, v26, v27] →
 ∀ v36 v37 v38 v39 v40 v41 v42 : Int, [v36, v37, v38, v39, v40, v41, v42] = T.out 16 7 [v0, v1, v2, v3, v4, v5, v6] →
 ∀ v43 v44 v45 v46 v47 v48 v49 : Int, [v43, v44, v45, v46, v47, v48, v49] = T.out 16 7 [v7, v8, v9, v10, v11, v12, v13] →
 ∀ v50 v51 v52 v53 v54 v55 v56 v57 : Int, [v50, v51, v52, v53, v54, v55, v56, v57] = T.out 32 8 [v36, v37, v38, v39, v40, v41, v42, v43, v44, v45, v46, v47, v48, v49] →
 ∀ v58 : Int, [v58] = T.out 18 1 [v50, v51, v52, v53, v54, v55, v56, v28, v29, v30, v31, v32, v33, v34] →
 ((decide ((v58 : Int) = 1) = true →
  (((!decide ((v57 : Int) = v35)) = true →
   post [0]) ∧ ((!decide ((v57 : Int) = v35)) = false →
   post [1]))) ∧ (decide ((v58 : Int) = 1) = false →
  post [0]))
theorem q10 (T : Tab) (I : Nat → List Int → List Int → Prop) (M : Nat → List Int → List Int → Nat) (pre : Nat → List Int → Prop) (post : List Int → Prop) (v0 v1 v2 v3 v4 v5 v6 v7 v8 v9 v10 v11 v12 v13 : Int) : t10.plain T (presL pre I M) post ⟨[v0, v1, v2, v3, v4, v5, v6, v7, v8, v9, v10, v11, v12, v13], []⟩ = p10 T I M pre post v0 v1 v2 v3 v4 v5 v6 v7 v8 v9 v10 v11 v12 v13 := by kernel_rfl
theorem k10 (T : Tab) (I : Nat → List Int → List Int → Prop) (M : Nat → List Int → List Int → Nat) (pre : Nat → List Int → Prop) (hs : SubSig T c10.sigs) (ht : Tot pre c10.sigs) (hg : T.sig 10 = some s10) (hC : CtAll Try.prog T.fns (pres pre) c10.sigs)
    (h : ∀ (v0 v1 v2 v3 v4 v5 v6 v7 v8 v9 v10 v11 v12 v13 : Int), (0 ≤ v0 ∧ v0 ≤ 1) → (0 ≤ v1 ∧ v1 ≤ 4294967295) → (0 ≤ v2 ∧ v2 ≤ 4294967295) → (0 ≤ v3 ∧ v3 ≤ 4294967295) → (0 ≤ v4 ∧ v4 ≤ 4294967295) → (0 ≤ v5 ∧ v5 ≤ 4294967295) → (0 ≤ v6 ∧ v6 ≤ 4294967295) → (0 ≤ v7 ∧ v7 ≤ 1) → (0 ≤ v8 ∧ v8 ≤ 4294967295) → (0 ≤ v9 ∧ v9 ≤ 4294967295) → (0 ≤ v10 ∧ v10 ≤ 4294967295) → (0 ≤ v11 ∧ v11 ≤ 4294967295) → (0 ≤ v12 ∧ v12 ≤ 4294967295) → (0 ≤ v13 ∧ v13 ≤ 4294967295) → pre 10 [v0, v1, v2, v3, v4, v5, v6, v7, v8, v9, v10, v11, v12, v13] → p10 T I M pre (fun ys => ys = T.fn 10 [v0, v1, v2, v3, v4, v5, v6, v7, v8, v9, v10, v11, v12, v13]) v0 v1 v2 v3 v4 v5 v6 v7 v8 v9 v10 v11 v12 v13) : CT Try.prog T.fns (pres pre) 10 s10 :=
  T.ctq (F := ⟨c10, []⟩) (fuel := 250) vc10 Try.checked.mixed hs ht hg hC Try.func10 I M (fun _ h _ => h) fun xs hx hp => by
    match xs, hx, hp with
    | [v0, v1, v2, v3, v4, v5, v6, v7, v8, v9, v10, v11, v12, v13], hx, hp => rw [q10]; exact h v0 v1 v2 v3 v4 v5 v6 v7 v8 v9 v10 v11 v12 v13 hx.1 hx.2.1 hx.2.2.1 hx.2.2.2.1 hx.2.2.2.2.1 hx.2.2.2.2.2.1 hx.2.2.2.2.2.2.1 hx.2.2.2.2.2.2.2.1 hx.2.2.2.2.2.2.2.2.1 hx.2.2.2.2.2.2.2.2.2.1 hx.2.2.2.2.2.2.2.2.2.2.1 hx.2.2.2.2.2.2.2.2.2.2.2.1 hx.2.2.2.2.2.2.2.2.2.2.2.2.1 hx.2.2.2.2.2.2.2.2.2.2.2.2.2.1 hp

end Go.Proofs.Ytmlmdicdblgcfaa.Sx

namespace Go.Proofs.Ytmlmdicdblgcfaa.Sx
open Go Go.RowKit
/-- loop.example/g01242/impl.CommonWide -/
noncomputable def c32 : Cfg := ⟨Try.prog, [(44, s44), (50, s50), (61, s61), (58, s58)]⟩
def iv32 : List Iv := [⟨0, 1⟩, ⟨0, 4294967295⟩, ⟨0, 4294967295⟩, ⟨0, 4294967295⟩, ⟨0, 4294967295⟩, ⟨0, 4294967295⟩, ⟨0, 4294967295⟩, ⟨0, 1⟩, ⟨0, 4294967295⟩, ⟨0, 4294967295⟩, ⟨0, 4294967295⟩, ⟨0, 4294967295⟩, ⟨0, 4294967295⟩, ⟨0, 4294967295⟩]
def t32 : VC :=
 (.call 44 (.e (.var 0) (.e (.var 1) (.e (.var 2) (.e (.var 3) (.e (.var 4) (.e (.var 5) (.e (.var 6) .nil))))))) 1
 (.ite (.eq (.var 14) (.lit 1))
  (.call 44 (.e (.var 7) (.e (.var 8) (.e (.var 9) (.e (.var 10) (.e (.var 11) (.e (.var 12) (.e (.var 13) .nil))))))) 1
  (.ite (.not (.eq (.var 15) (.lit 1)))
   (.fin (.e (.lit 0) (.e (.lit 0) (.e (.lit 0) (.e (.lit 0) (.e (.lit 0) (.e (.lit 0) (.e (.lit 0) (.e (.lit 1) .nil)))))))))
   (.loop 0 [(.var 1), (.var 2), (.var 3), (.var 4), (.var 5), (.var 6), (.var 8), (.var 9), (.var 10), (.var 11), (.var 12), (.var 13)] [⟨0, 4294967295⟩, ⟨0, 4294967295⟩, ⟨0, 4294967295⟩, ⟨0, 4294967295⟩, ⟨0, 4294967295⟩, ⟨0, 4294967295⟩, ⟨0, 4294967295⟩, ⟨0, 4294967295⟩, ⟨0, 4294967295⟩, ⟨0, 4294967295⟩, ⟨0, 4294967295⟩, ⟨0, 4294967295⟩]
    (.call 50 (.e (.var 22) (.e (.var 23) (.e (.var 24) (.e (.var 25) (.e (.var 26) (.e (.var 27) .nil)))))) 1
    (.ite (.not (.eq (.var 28) (.lit 1)))
     (.need [(.pre 61 (.e (.var 16) (.e (.var 17) (.e (.var 18) (.e (.var 19) (.e (.var 20) (.e (.var 21) (.e (.var 22) (.e (.var 23) (.e (.var 24) (.e (.var 25) (.e (.var 26) (.e (.var 27) .nil)))))))))))))]
     (.call 61 (.e (.var 16) (.e (.var 17) (.e (.var 18) (.e (.var 19) (.e (.var 20) (.e (.var 21) (.e (.var 22) (.e (.var 23) (.e (.var 24) (.e (.var 25) (.e (.var 26) (.e (.var 27) .nil)))))))))))) 12
     (.again 0 16 [⟨0, 4294967295⟩, ⟨0, 4294967295⟩, ⟨0, 4294967295⟩, ⟨0, 4294967295⟩, ⟨0, 4294967295⟩, ⟨0, 4294967295⟩, ⟨0, 4294967295⟩, ⟨0, 4294967295⟩, ⟨0, 4294967295⟩, ⟨0, 4294967295⟩, ⟨0, 4294967295⟩, ⟨0, 4294967295⟩] [(.var 22), (.var 23), (.var 24), (.var 25), (.var 26), (.var 27), (.var 35), (.var 36), (.var 37), (.var 38), (.var 39), (.var 40)])))
     (.call 58 (.e (.lit 0) (.e (.var 16) (.e (.var 17) (.e (.var 18) (.e (.var 19) (.e (.var 20) (.e (.var 21) .nil))))))) 7
     (.fin (.e (.var 29) (.e (.var 30) (.e (.var 31) (.e (.var 32) (.e (.var 33) (.e (.var 34) (.e (.var 35) (.e (.lit 0) .nil)))))))))))))))
  (.fin (.e (.lit 0) (.e (.lit 0) (.e (.lit 0) (.e (.lit 0) (.e (.lit 0) (.e (.lit 0) (.e (.lit 0) (.e (.lit 1) .nil)))))))))))
theorem vc32 : vcOfI ⟨c32, [(4, ⟨0, [], [3, 4], [23, 24, 25, 27, 28, 29, 26, 30, 31, 8, 9, 32, 33], [⟨0, 4294967295⟩, ⟨0, 4294967295⟩, ⟨0, 4294967295⟩, ⟨0, 4294967295⟩, ⟨0, 4294967295⟩, ⟨0, 4294967295⟩, ⟨0, 4294967295⟩, ⟨0, 4294967295⟩, ⟨0, 4294967295⟩, ⟨0, 4294967295⟩, ⟨0, 4294967295⟩, ⟨0, 4294967295⟩]⟩)]⟩ iv32 250 Try.f32 s32 = t32 := by kernel_rfl
set_option linter.unusedVariables false in
def p32 (T : Tab) (I : Nat → List Int → List Int → Prop) (M : Nat → List Int → List Int → Nat) (pre : Nat → List Int → Prop) (post : List Int → Prop) (v0 v1 v2 v3 v4 v5 v6 v7 v8 v9 v10 v11 v12 v13 : Int) : Prop :=
 ∀ v14 : Int, [v14] = T.out 44 1 [v0, v1, v2, v3, v4, v5, v6] →
 ((decide ((v14 : Int) = 1) = true →
  ∀ v15 : Int, [v15] = T.out 44 1 [v7, v8, v9, v10, v11, v12, v13] →
  (((!decide ((v15 : Int) = 1)) = true →
   post [0, 0, 0, 0, 0, 0, 0, 1]) ∧ ((!decide ((v15 : Int) = 1)) = false →
   ((allHas [⟨0, 4294967295⟩, ⟨0, 4294967295⟩, ⟨0, 4294967295⟩, ⟨0, 4294967295⟩, ⟨0, 4294967295⟩, ⟨0, 4294967295⟩, ⟨0, 4294967295⟩, ⟨0, 4294967295⟩, ⟨0, 4294967295⟩, ⟨0, 4294967295⟩, ⟨0, 4294967295⟩, ⟨0, 4294967295⟩] [v1, v2, v3, v4, v5, v6, v8, v9, v10, v11, v12, v13] ∧ I 0 [v0, v1, v2, v3, v4, v5, v6, v7, v8, v9, v10, v11, v12, v13, v14, v15] [v1, v2, v3, v4, v5, v6, v8, v9, v10, v11, v12, v13]) ∧ ∀ v16 v17 v18 v19 v20 v21 v22 v23 v24 v25 v26 v27 : Int, allHas [⟨0, 4294967295⟩, ⟨0, 4294967295⟩, ⟨0, 4294967295⟩, ⟨0, 4294967295⟩, ⟨0, 4294967295⟩, ⟨0, 4294967295⟩, ⟨0, 4294967295⟩, ⟨0, 4294967295⟩, ⟨0, 4294967295⟩, ⟨0, 4294967295⟩, ⟨0, 4294967295⟩, ⟨0, 4294967295⟩] [v16, v17, v18, v19, v20, v21, v22, v23, v24, v25, v26, v27] → I 0 [v0, v1, v2, v3, v4, v5, v6, v7, v8, v9, v10, v11, v12, v13, v14, v15] [v16, v17, v18, v19, v20, v21, v22, v23, v24, v25, v26, v27] →
    ∀ v28 : Int, [v28] = T.out 50 1 [v22, v23, v24, v25, v26, v27] →
    (((!decide ((v28 : Int) = 1)) = true →
     ((pre 61 [v16, v17, v18, v19, v20, v21, v22, v23, v24, v25, v26, v27]) ∧ ((pre 61 [v16, v17, v18, v19, v20, v21, v22, v23, v24, v25, v26, v27]) →
     ∀ v29 v30 v31 v32 v33 v34 v35 v36 v37 v38 v39 v40 : Int, [v29, v30, v31, v32, v33, v34, v35, v36, v37, v38, v39, v40] = T.out 61 12 [v16, v17, v18, v19, v20, v21, v22, v23, v24, v25, v26, v27] →
     (allHas [⟨0, 4294967295⟩, ⟨0, 4294967295⟩, ⟨0, 4294967295⟩, ⟨0, 4294967295⟩, ⟨0, 4294967295⟩, ⟨0, 4294967295⟩, ⟨0, 4294967295⟩, ⟨0, 4294967295⟩, ⟨0, 4294967295⟩, ⟨0, 4294967295⟩, ⟨0, 4294967295⟩, ⟨0, 4294967295⟩] [v22, v23, v24, v25, v26, v27, v35, v36, v37, v38, v39, v40] ∧ I 0 [v0, v1, v2, v3, v4, v5, v6, v7, v8, v9, v10, v11, v12, v13, v14, v15] [v22, v23, v24, v25, v26, v27, v35, v36, v37, v38, v39, v40] ∧ M 0 [v0, v1, v2, v3, v4, v5, v6, v7, v8, v9, v10, v11, v12, v13, v14, v15] [v22, v23, v24, v25, v26, v27, v35, v36, v37, v38, v39, v40] < M 0 [v0, v1, v2, v3, v4, v5, v6, v7, v8, v9, v10, v11, v12, v13, v14, v15] [v16, v17, v18, v19, v20, v21, v22, v23, v24, v25, v26, v27])))) ∧ ((!decide ((v28 : Int) = 1)) = false →
     ∀ v29 v30 v31 v32 v33 v34 v35 : Int, [v29, v30, v31, v32, v33, v34, v35] = T.out 58 7 [0, v16, v17, v18, v19, v20, v21] →
     post [v29, v30, v31, v32, v33, v34, v35, 0])))))) ∧ (decide ((v14 : Int) = 1) = false →
  post [0, 0, 0, 0, 0, 0, 0, 1]))
theorem q32 (T : Tab) (I : Nat → List Int → List Int → Prop) (M : Nat → List Int → List Int → Nat) (pre : Nat → List Int → Prop) (post : List Int → Prop) (v0 v1 v2 v3 v4 v5 v6 v7 v8 v9 v10 v11 v12 v13 : Int) : t32.plain T (presL pre I M) post ⟨[v0, v1, v2, v3, v4, v5, v6, v7, v8, v9, v10, v11, v12, v13], []⟩ = p32 T I M pre post v0 v1 v2 v3 v4 v5 v6 v7 v8 v9 v10 v11 v12 v13 := by kernel_rfl
theorem k32 (T : Tab) (I : Nat → List Int → List Int → Prop) (M : Nat → List Int → List Int → Nat) (pre : Nat → List Int → Prop) (hs : SubSig T c32.sigs) (ht : Tot pre c32.sigs) (hg : T.sig 32 = some s32) (hC : CtAll Try.prog T.fns (pres pre) c32.sigs)
    (h : ∀ (v0 v1 v2 v3 v4 v5 v6 v7 v8 v9 v10 v11 v12 v13 : Int), (0 ≤ v0 ∧ v0 ≤ 1) → (0 ≤ v1 ∧ v1 ≤ 4294967295) → (0 ≤ v2 ∧ v2 ≤ 4294967295) → (0 ≤ v3 ∧ v3 ≤ 4294967295) → (0 ≤ v4 ∧ v4 ≤ 4294967295) → (0 ≤ v5 ∧ v5 ≤ 4294967295) → (0 ≤ v6 ∧ v6 ≤ 4294967295) → (0 ≤ v7 ∧ v7 ≤ 1) → (0 ≤ v8 ∧ v8 ≤ 4294967295) → (0 ≤ v9 ∧ v9 ≤ 4294967295) → (0 ≤ v10 ∧ v10 ≤ 4294967295) → (0 ≤ v11 ∧ v11 ≤ 4294967295) → (0 ≤ v12 ∧ v12 ≤ 4294967295) → (0 ≤ v13 ∧ v13 ≤ 4294967295) → pre 32 [v0, v1, v2, v3, v4, v5, v6, v7, v8, v9, v10, v11, v12, v13] → p32 T I M pre (fun ys => ys = T.fn 32 [v0, v1, v2, v3, v4, v5, v6, v7, v8, v9, v10, v11, v12, v13]) v0 v1 v2 v3 v4 v5 v6 v7 v8 v9 v10 v11 v12 v13) : CT Try.prog T.fns (pres pre) 32 s32 :=
  T.ctq (F := ⟨c32, [(4, ⟨0, [], [3, 4], [23, 24, 25, 27, 28, 29, 26, 30, 31, 8, 9, 32, 33], [⟨0, 4294967295⟩, ⟨0, 4294967295⟩, ⟨0, 4294967295⟩, ⟨0, 4294967295⟩, ⟨0, 4294967295⟩, ⟨0, 4294967295⟩, ⟨0, 4294967295⟩, ⟨0, 4294967295⟩, ⟨0, 4294967295⟩, ⟨0, 4294967295⟩, ⟨0, 4294967295⟩, ⟨0, 4294967295⟩]⟩)]⟩) (fuel := 250) vc32 Try.checked.mixed hs ht hg hC Try.func32 I M (fun _ h _ => h) fun xs hx hp => by
    match xs, hx, hp with
    | [v0, v1, v2, v3, v4, v5, v6, v7, v8, v9, v10, v11, v12, v13], hx, hp => rw [q32]; exact h v0 v1 v2 v3 v4 v5 v6 v7 v8 v9 v10 v11 v12 v13 hx.1 hx.2.1 hx.2.2.1 hx.2.2.2.1 hx.2.2.2.2.1 hx.2.2.2.2.2.1 hx.2.2.2.2.2.2.1 hx.2.2.2.2.2.2.2.1 hx.2.2.2.2.2.2.2.2.1 hx.2.2.2.2.2.2.2.2.2.1 hx.2.2.2.2.2.2.2.2.2.2.1 hx.2.2.2.2.2.2.2.2.2.2.2.1 hx.2.2.2.2.2.2.2.2.2.2.2.2.1 hx.2.2.2.2.2.2.2.2.2.2.2.2.2.1 hp

/-- loop.example/g01242/spec.CommonWide -/
noncomputable def c31 : Cfg := ⟨Try.prog, [(41, s41), (68, s68), (69, s69), (70, s70)]⟩
def iv31 : List Iv := [⟨0, 1⟩, ⟨0, 4294967295⟩, ⟨0, 4294967295⟩, ⟨0, 4294967295⟩, ⟨0, 4294967295⟩, ⟨0, 4294967295⟩, ⟨0, 4294967295⟩, ⟨0, 1⟩, ⟨0, 4294967295⟩, ⟨0, 4294967295⟩, ⟨0, 4294967295⟩, ⟨0, 4294967295⟩, ⟨0, 4294967295⟩, ⟨0, 4294967295⟩]
def t31 : VC :=
 (.call 41 (.e (.var 0) (.e (.var 1) (.e (.var 2) (.e (.var 3) (.e (.var 4) (.e (.var 5) (.e (.var 6) .nil))))))) 1
 (.ite (.eq (.var 14) (.lit 1))
  (.call 41 (.e (.var 7) (.e (.var 8) (.e (.var 9) (.e (.var 10) (.e (.var 11) (.e (.var 12) (.e (.var 13) .nil))))))) 1
  (.ite (.not (.eq (.var 15) (.lit 1)))
   (.fin (.e (.lit 0) (.e (.lit 0) (.e (.lit 0) (.e (.lit 0) (.e (.lit 0) (.e (.lit 0) (.e (.lit 0) (.e (.lit 1) .nil)))))))))
   (.loop 0 [(.var 1), (.var 2), (.var 3), (.var 4), (.var 5), (.var 6), (.var 8), (.var 9), (.var 10), (.var 11), (.var 12), (.var 13)] [⟨0, 4294967295⟩, ⟨0, 4294967295⟩, ⟨0, 4294967295⟩, ⟨0, 4294967295⟩, ⟨0, 4294967295⟩, ⟨0, 4294967295⟩, ⟨0, 4294967295⟩, ⟨0, 4294967295⟩, ⟨0, 4294967295⟩, ⟨0, 4294967295⟩, ⟨0, 4294967295⟩, ⟨0, 4294967295⟩]
    (.call 68 (.e (.var 22) (.e (.var 23) (.e (.var 24) (.e (.var 25) (.e (.var 26) (.e (.var 27) .nil)))))) 1
    (.ite (.not (.eq (.var 28) (.lit 1)))
     (.need [(.pre 69 (.e (.var 16) (.e (.var 17) (.e (.var 18) (.e (.var 19) (.e (.var 20) (.e (.var 21) (.e (.var 22) (.e (.var 23) (.e (.var 24) (.e (.var 25) (.e (.var 26) (.e (.var 27) .nil)))))))))))))]
     (.call 69 (.e (.var 16) (.e (.var 17) (.e (.var 18) (.e (.var 19) (.e (.var 20) (.e (.var 21) (.e (.var 22) (.e (.var 23) (.e (.var 24) (.e (.var 25) (.e (.var 26) (.e (.var 27) .nil)))))))))))) 12
     (.again 0 16 [⟨0, 4294967295⟩, ⟨0, 4294967295⟩, ⟨0, 4294967295⟩, ⟨0, 4294967295⟩, ⟨0, 4294967295⟩, ⟨0, 4294967295⟩, ⟨0, 4294967295⟩, ⟨0, 4294967295⟩, ⟨0, 4294967295⟩, ⟨0, 4294967295⟩, ⟨0, 4294967295⟩, ⟨0, 4294967295⟩] [(.var 22), (.var 23), (.var 24), (.var 25), (.var 26), (.var 27), (.var 35), (.var 36), (.var 37), (.var 38), (.var 39), (.var 40)])))
     (.call 70 (.e (.lit 0) (.e (.var 16) (.e (.var 17) (.e (.var 18) (.e (.var 19) (.e (.var 20) (.e (.var 21) .nil))))))) 7
     (.fin (.e (.var 29) (.e (.var 30) (.e (.var 31) (.e (.var 32) (.e (.var 33) (.e (.var 34) (.e (.var 35) (.e (.lit 0) .nil)))))))))))))))
  (.fin (.e (.lit 0) (.e (.lit 0) (.e (.lit 0) (.e (.lit 0) (.e (.lit 0) (.e (.lit 0) (.e (.lit 0) (.e (.lit 1) .nil)))))))))))
theorem vc31 : vcOfI ⟨c31, [(5, ⟨0, [], [3, 4], [21, 22, 24, 23, 25, 26, 8, 9, 27, 28], [⟨0, 4294967295⟩, ⟨0, 4294967295⟩, ⟨0, 4294967295⟩, ⟨0, 4294967295⟩, ⟨0, 4294967295⟩, ⟨0, 4294967295⟩, ⟨0, 4294967295⟩, ⟨0, 4294967295⟩, ⟨0, 4294967295⟩, ⟨0, 4294967295⟩, ⟨0, 4294967295⟩, ⟨0, 4294967295⟩]⟩)]⟩ iv31 250 Try.f31 s31 = t31 := by kernel_rfl
set_option linter.unusedVariables false in
def p31 (T : Tab) (I : Nat → List Int → List Int → Prop) (M : Nat → List Int → List Int → Nat) (pre : Nat → List Int → Prop) (post : List Int → Prop) (v0 v1 v2 v3 v4 v5 v6 v7 v8 v9 v10 v11 v12 v13 : Int) : Prop :=
 ∀ v14 : Int, [v14] = T.out 41 1 [v0, v1, v2, v3, v4, v5, v6] →
 ((decide ((v14 : Int) = 1) = true →
  ∀ v15 : Int, [v15] = T.out 41 1 [v7, v8, v9, v10, v11, v12, v13] →
  (((!decide ((v15 : Int) = 1)) = true →
   post [0, 0, 0, 0, 0, 0, 0, 1]) ∧ ((!decide ((v15 : Int) = 1)) = false →
   ((allHas [⟨0, 4294967295⟩, ⟨0, 4294967295⟩, ⟨0, 4294967295⟩, ⟨0, 4294967295⟩, ⟨0, 4294967295⟩, ⟨0, 4294967295⟩, ⟨0, 4294967295⟩, ⟨0, 4294967295⟩, ⟨0, 4294967295⟩, ⟨0, 4294967295⟩, ⟨0, 4294967295⟩, ⟨0, 4294967295⟩] [v1, v2, v3, v4, v5, v6, v8, v9, v10, v11, v12, v13] ∧ I 0 [v0, v1, v2, v3, v4, v5, v6, v7, v8, v9, v10, v11, v12, v13, v14, v15] [v1, v2, v3, v4, v5, v6, v8, v9, v10, v11, v12, v13]) ∧ ∀ v16 v17 v18 v19 v20 v21 v22 v23 v24 v25 v26 v27 : Int, allHas [⟨0, 4294967295⟩, ⟨0, 4294967295⟩, ⟨0, 4294967295⟩, ⟨0, 4294967295⟩, ⟨0, 4294967295⟩, ⟨0, 4294967295⟩, ⟨0, 4294967295⟩, ⟨0, 4294967295⟩, ⟨0, 4294967295⟩, ⟨0, 4294967295⟩, ⟨0, 4294967295⟩, ⟨0, 4294967295⟩] [v16, v17, v18, v19, v20, v21, v22, v23, v24, v25, v26, v27] → I 0 [v0, v1, v2, v3, v4, v5, v6, v7, v8, v9, v10, v11, v12, v13, v14, v15] [v16, v17, v18, v19, v20, v21, v22, v23, v24, v25, v26, v27] →
    ∀ v28 : Int, [v28] = T.out 68 1 [v22, v23, v24, v25, v26, v27] →
    (((!decide ((v28 : Int) = 1)) = true →
     ((pre 69 [v16, v17, v18, v19, v20, v21, v22, v23, v24, v25, v26, v27]) ∧ ((pre 69 [v16, v17, v18, v19, v20, v21, v22, v23, v24, v25, v26, v27]) →
     ∀ v29 v30 v31 v32 v33 v34 v35 v36 v37 v38 v39 v40 : Int, [v29, v30, v31, v32, v33, v34, v35, v36, v37, v38, v39, v40] = T.out 69 12 [v16, v17, v18, v19, v20, v21, v22, v23, v24, v25, v26, v27] →
     (allHas [⟨0, 4294967295⟩, ⟨0, 4294967295⟩, ⟨0, 4294967295⟩, ⟨0, 4294967295⟩, ⟨0, 4294967295⟩, ⟨0, 4294967295⟩, ⟨0, 4294967295⟩, ⟨0, 4294967295⟩, ⟨0, 4294967295⟩, ⟨0, 4294967295⟩, ⟨0, 4294967295⟩, ⟨0, 4294967295⟩] [v22, v23, v24, v25, v26, v27, v35, v36, v37, v38, v39, v40] ∧ I 0 [v0, v1, v2, v3, v4, v5, v6, v7, v8, v9, v10, v11, v12, v13, v14, v15] [v22, v23, v24, v25, v26, v27, v35, v36, v37, v38, v39, v40] ∧ M 0 [v0, v1, v2, v3, v4, v5, v6, v7, v8, v9, v10, v11, v12, v13, v14, v15] [v22, v23, v24, v25, v26, v27, v35, v36, v37, v38, v39, v40] < M 0 [v0, v1, v2, v3, v4, v5, v6, v7, v8, v9, v10, v11, v12, v13, v14, v15] [v16, v17, v18, v19, v20, v21, v22, v23, v24, v25, v26, v27])))) ∧ ((!decide ((v28 : Int) = 1)) = false →
     ∀ v29 v30 v31 v32 v33 v34 v35 : Int, [v29, v30, v31, v32, v33, v34, v35] = T.out 70 7 [0, v16, v17, v18, v19, v20, v21] →
     post [v29, v30, v31, v32, v33, v34, v35, 0])))))) ∧ (decide ((v14 : Int) = 1) = false →
  post [0, 0, 0, 0, 0, 0, 0, 1]))
theorem q31 (T : Tab) (I : Nat → List Int → List Int → Prop) (M : Nat → List Int → List Int → Nat) (pre : Nat → List Int → Prop) (post : List Int → Prop) (v0 v1 v2 v3 v4 v5 v6 v7 v8 v9 v10 v11 v12 v13 : Int) : t31.plain T (presL pre I M) post ⟨[v0, v1, v2, v3, v4, v5, v6, v7, v8, v9, v10, v11, v12, v13], []⟩ = p31 T I M pre post v0 v1 v2 v3 v4 v5 v6 v7 v8 v9 v10 v11 v12 v13 := by kernel_rfl
theorem k31 (T : Tab) (I : Nat → List Int → List Int → Prop) (M : Nat → List Int → List Int → Nat) (pre : Nat → List Int → Prop) (hs : SubSig T c31.sigs) (ht : Tot pre c31.sigs) (hg : T.sig 31 = some s31) (hC : CtAll Try.prog T.fns (pres pre) c31.sigs)
    (h : ∀ (v0 v1 v2 v3 v4 v5 v6 v7 v8 v9 v10 v11 v12 v13 : Int), (0 ≤ v0 ∧ v0 ≤ 1) → (0 ≤ v1 ∧ v1 ≤ 4294967295) → (0 ≤ v2 ∧ v2 ≤ 4294967295) → (0 ≤ v3 ∧ v3 ≤ 4294967295) → (0 ≤ v4 ∧ v4 ≤ 4294967295) → (0 ≤ v5 ∧ v5 ≤ 4294967295) → (0 ≤ v6 ∧ v6 ≤ 4294967295) → (0 ≤ v7 ∧ v7 ≤ 1) → (0 ≤ v8 ∧ v8 ≤ 4294967295) → (0 ≤ v9 ∧ v9 ≤ 4294967295) → (0 ≤ v10 ∧ v10 ≤ 4294967295) → (0 ≤ v11 ∧ v11 ≤ 4294967295) → (0 ≤ v12 ∧ v12 ≤ 4294967295) → (0 ≤ v13 ∧ v13 ≤ 4294967295) → pre 31 [v0, v1, v2, v3, v4, v5, v6, v7, v8, v9, v10, v11, v12, v13] → p31 T I M pre (fun ys => ys = T.fn 31 [v0, v1, v2, v3, v4, v5, v6, v7, v8, v9, v10, v11, v12, v13]) v0 v1 v2 v3 v4 v5 v6 v7 v8 v9 v10 v11 v12 v13) : CT Try.prog T.fns (pres pre) 31 s31 :=
  T.ctq (F := ⟨c31, [(5, ⟨0, [], [3, 4], [21, 22, 24, 23, 25, 26, 8, 9, 27, 28], [⟨0, 4294967295⟩, ⟨0, 4294967295⟩, ⟨0, 4294967295⟩, ⟨0, 4294967295⟩, ⟨0, 4294967295⟩, ⟨0, 4294967295⟩, ⟨0, 4294967295⟩, ⟨0, 4294967295⟩, ⟨0, 4294967295⟩, ⟨0, 4294967295⟩, ⟨0, 4294967295⟩, ⟨0, 4294967295⟩]⟩)]⟩) (fuel := 250) vc31 Try.checked.mixed hs ht hg hC Try.func31 I M (fun _ h _ => h) fun xs hx hp => by
    match xs, hx, hp with
    | [v0, v1, v2, v3, v4, v5, v6, v7, v8, v9, v10, v11, v12, v13], hx, hp => rw [q31]; exact h v0 v1 v2 v3 v4 v5 v6 v7 v8 v9 v10 v11 v12 v13 hx.1 hx.2.1 hx.2.2.1 hx.2.2.2.1 hx.2.2.2.2.1 hx.2.2.2.2.2.1 hx.2.2.2.2.2.2.1 hx.2.2.2.2.2.2.2.1 hx.2.2.2.2.2.2.2.2.1 hx.2.2.2.2.2.2.2.2.2.1 hx.2.2.2.2.2.2.2.2.2.2.1 hx.2.2.2.2.2.2.2.2.2.2.2.1 hx.2.2.2.2.2.2.2.2.2.2.2.2.1 hx.2.2.2.2.2.2.2.2.2.2.2.2.2.1 hp

end Go.Proofs.Ytmlmdicdblgcfaa.Sx
