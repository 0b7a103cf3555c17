/-
  Signatures of functions: how their arguments and results are taken apart into numbers. Written by a program of mine.
  What the symbolic executor asks of these functions, written out by a program of mine, and that it asks just this.
  What the symbolic executor asks of these functions, written out by a program of mine, and that it asks just this.
  What the symbolic executor asks of these functions, written out by a program of mine, and that it asks just this.
  What the symbolic executor asks of these functions, written out by a program of mine, and that it asks just this.
  What the symbolic executor asks of these functions, written out by a program of mine, and that it asks just this.
  What the symbolic executor asks of these functions, written out by a program of mine, and that it asks just this.
-/
import Derived.Test.YtmlmdicdblgcfaaX2
import Derived.Test.YtmlmdicdblgcfaaChecked
import Derived.KernelRfl
namespace Go.Proofs.Ytmlmdicdblgcfaa.Sx
open Go Go.RowKit
def s3 : Sig := ⟨[.val true [.b, .i .u32, .i .u32, .i .u32, .i .u32, .i .u32, .i .u32], .val true [.b, .i .u32, .i .u32, .i .u32, .i .u32, .i .u32, .i .u32]], [(false, [.b])], true⟩
def s4 : Sig := ⟨[.val true [.b, .i .u32, .i .u32, .i .u32, .i .u32, .i .u32, .i .u32], .val false [.i .i64]], [(false, [.b])], true⟩
def s5 : Sig := ⟨[.val true [.b, .i .u32, .i .u32, .i .u32, .i .u32, .i .u32, .i .u32], .val false [.i .i64]], [(false, [.b])], true⟩
def s9 : Sig := ⟨[.val true [.b, .i .u32, .i .u32, .i .u32, .i .u32, .i .u32, .i .u32], .val false [.i .i64]], [(false, [.b])], true⟩
def s43 : Sig := ⟨[.val true [.i .u32, .i .u32, .i .u32, .i .u32, .i .u32, .i .u32]], [(true, [.i .u32, .i .u32, .i .u32, .i .u32, .i .u32, .i .u32])], true⟩
def s16 : Sig := ⟨[.val true [.b, .i .u32, .i .u32, .i .u32, .i .u32, .i .u32, .i .u32]], [(true, [.b, .i .u32, .i .u32, .i .u32, .i .u32, .i .u32, .i .u32])], true⟩
def s18 : Sig := ⟨[.val true [.b, .i .u32, .i .u32, .i .u32, .i .u32, .i .u32, .i .u32], .val true [.b, .i .u32, .i .u32, .i .u32, .i .u32, .i .u32, .i .u32]], [(false, [.b])], true⟩
def s47 : Sig := ⟨[.val true [.i .u32, .i .u32, .i .u32, .i .u32, .i .u32, .i .u32], .val true [.i .u32, .i .u32, .i .u32, .i .u32, .i .u32, .i .u32]], [(false, [.b])], true⟩
def s41 : Sig := ⟨[.ptr [.b, .i .u32, .i .u32, .i .u32, .i .u32, .i .u32, .i .u32]], [(false, [.b])], true⟩
def s70 : Sig := ⟨[.val false [.b], .val true [.i .u32, .i .u32, .i .u32, .i .u32, .i .u32, .i .u32]], [(true, [.b, .i .u32, .i .u32, .i .u32, .i .u32, .i .u32, .i .u32])], true⟩
def s68 : Sig := ⟨[.ptr [.i .u32, .i .u32, .i .u32, .i .u32, .i .u32, .i .u32]], [(false, [.b])], true⟩
def s67 : Sig := ⟨[.val false [.i .i64]], [(true, [.b, .i .u32, .i .u32, .i .u32, .i .u32, .i .u32, .i .u32])], true⟩
def s48 : Sig := ⟨[.val false [.i .i64]], [(false, [.b])], true⟩
def s85 : Sig := ⟨[.val false [.i .i64], .val false [.i .i64], .val false [.i .i64]], [(false, [.b])], true⟩
def s94 : Sig := ⟨[.ptr [.i .u32, .i .u32, .i .u32, .i .u32, .i .u32, .i .u32]], [(false, [.n .i64 0 192])], true⟩
def s87 : Sig := ⟨[.ptr [.i .u32, .i .u32, .i .u32, .i .u32, .i .u32, .i .u32], .val false [.i .i64]], [(true, [.i .u32, .i .u32, .i .u32, .i .u32, .i .u32, .i .u32]), (false, [.b])], false⟩
def s89 : Sig := ⟨[.ptr [.i .u32, .i .u32, .i .u32, .i .u32, .i .u32, .i .u32], .val false [.i .i64]], [(true, [.i .u32, .i .u32, .i .u32, .i .u32, .i .u32, .i .u32])], false⟩
def s49 : Sig := ⟨[.val true [.b, .i .u32, .i .u32, .i .u32, .i .u32, .i .u32, .i .u32], .val false [.i .i64]], [(true, [.b, .i .u32, .i .u32, .i .u32, .i .u32, .i .u32, .i .u32]), (false, [.i .i64])], false⟩
def s53 : Sig := ⟨[.val true [.b, .i .u32, .i .u32, .i .u32, .i .u32, .i .u32, .i .u32], .val false [.i .i64]], [(true, [.b, .i .u32, .i .u32, .i .u32, .i .u32, .i .u32, .i .u32])], false⟩
def s91 : Sig := ⟨[.ptr [.i .u32, .i .u32, .i .u32, .i .u32, .i .u32, .i .u32], .ptr [.i .u32, .i .u32, .i .u32, .i .u32, .i .u32, .i .u32]], [(true, [.i .u32, .i .u32, .i .u32, .i .u32, .i .u32, .i .u32]), (false, [.b])], true⟩
def s90 : Sig := ⟨[.ptr [.i .u32, .i .u32, .i .u32, .i .u32, .i .u32, .i .u32], .ptr [.i .u32, .i .u32, .i .u32, .i .u32, .i .u32, .i .u32]], [(true, [.i .u32, .i .u32, .i .u32, .i .u32, .i .u32, .i .u32])], true⟩
def s93 : Sig := ⟨[.ptr [.i .u32, .i .u32, .i .u32, .i .u32, .i .u32, .i .u32], .ptr [.i .u32, .i .u32, .i .u32, .i .u32, .i .u32, .i .u32]], [(false, [.n .i64 (-1) 1])], true⟩
def s42 : Sig := ⟨[.val true [.b, .i .u32, .i .u32, .i .u32, .i .u32, .i .u32, .i .u32], .val true [.b, .i .u32, .i .u32, .i .u32, .i .u32, .i .u32, .i .u32]], [(true, [.b, .i .u32, .i .u32, .i .u32, .i .u32, .i .u32, .i .u32]), (false, [.i .i64])], true⟩
def s15 : Sig := ⟨[.val true [.b, .i .u32, .i .u32, .i .u32, .i .u32, .i .u32, .i .u32], .val true [.b, .i .u32, .i .u32, .i .u32, .i .u32, .i .u32, .i .u32]], [(true, [.b, .i .u32, .i .u32, .i .u32, .i .u32, .i .u32, .i .u32]), (false, [.i .i64])], true⟩
def s19 : Sig := ⟨[.val true [.b, .i .u32, .i .u32, .i .u32, .i .u32, .i .u32, .i .u32], .val false [.i .i64]], [(true, [.b, .i .u32, .i .u32, .i .u32, .i .u32, .i .u32, .i .u32]), (false, [.i .i64])], true⟩
def s21 : Sig := ⟨[.val true [.b, .i .u32, .i .u32, .i .u32, .i .u32, .i .u32, .i .u32], .val false [.i .i64]], [(true, [.b, .i .u32, .i .u32, .i .u32, .i .u32, .i .u32, .i .u32]), (false, [.i .i64])], true⟩
def s29 : Sig := ⟨[.val true [.b, .i .u32, .i .u32, .i .u32, .i .u32, .i .u32, .i .u32], .val false [.i .i64]], [(true, [.b, .i .u32, .i .u32, .i .u32, .i .u32, .i .u32, .i .u32]), (false, [.i .i64])], true⟩
def s44 : Sig := ⟨[.val true [.b, .i .u32, .i .u32, .i .u32, .i .u32, .i .u32, .i .u32]], [(false, [.b])], true⟩
def s64 : Sig := ⟨[.val false [.i .i64]], [(true, [.b, .i .u32, .i .u32, .i .u32, .i .u32, .i .u32, .i .u32])], true⟩
def s58 : Sig := ⟨[.val false [.b], .val true [.i .u32, .i .u32, .i .u32, .i .u32, .i .u32, .i .u32]], [(true, [.b, .i .u32, .i .u32, .i .u32, .i .u32, .i .u32, .i .u32])], true⟩
def s46 : Sig := ⟨[.val false [.b], .val true [.i .u32, .i .u32, .i .u32, .i .u32, .i .u32, .i .u32], .val false [.b]], [(true, [.b, .i .u32, .i .u32, .i .u32, .i .u32, .i .u32, .i .u32]), (false, [.i .i64])], true⟩
def s50 : Sig := ⟨[.val true [.i .u32, .i .u32, .i .u32, .i .u32, .i .u32, .i .u32]], [(false, [.b])], true⟩
def s56 : Sig := ⟨[.val true [.i .u32, .i .u32, .i .u32, .i .u32, .i .u32, .i .u32], .val true [.i .u32, .i .u32, .i .u32, .i .u32, .i .u32, .i .u32]], [(false, [.n .i64 (-1) 1])], true⟩
def s77 : Sig := ⟨[.val true [.i .u32, .i .u32, .i .u32, .i .u32, .i .u32, .i .u32], .val true [.i .u32, .i .u32, .i .u32, .i .u32, .i .u32, .i .u32]], [(true, [.i .u32, .i .u32, .i .u32, .i .u32, .i .u32, .i .u32]), (false, [.b])], true⟩
def s55 : Sig := ⟨[.val true [.i .u32, .i .u32, .i .u32, .i .u32, .i .u32, .i .u32], .val true [.i .u32, .i .u32, .i .u32, .i .u32, .i .u32, .i .u32]], [(true, [.i .u32, .i .u32, .i .u32, .i .u32, .i .u32, .i .u32])], true⟩
def s57 : Sig := ⟨[.val true [.i .u32, .i .u32, .i .u32, .i .u32, .i .u32, .i .u32]], [(true, [.i .u32, .i .u32, .i .u32, .i .u32, .i .u32, .i .u32])], true⟩
def s86 : Sig := ⟨[.val true [.i .u32, .i .u32, .i .u32, .i .u32, .i .u32, .i .u32]], [(false, [.n .i64 0 6])], true⟩
def s51 : Sig := ⟨[.val true [.i .u32, .i .u32, .i .u32, .i .u32, .i .u32, .i .u32]], [(false, [.n .i64 0 192])], true⟩
def s88 : Sig := ⟨[.val false [.i .u32]], [(false, [.n .i64 0 32])], true⟩
def s52 : Sig := ⟨[.val true [.i .u32, .i .u32, .i .u32, .i .u32, .i .u32, .i .u32], .val false [.i .i64]], [(true, [.i .u32, .i .u32, .i .u32, .i .u32, .i .u32, .i .u32])], false⟩
def s54 : Sig := ⟨[.val true [.i .u32, .i .u32, .i .u32, .i .u32, .i .u32, .i .u32], .val false [.i .i64]], [(true, [.i .u32, .i .u32, .i .u32, .i .u32, .i .u32, .i .u32])], false⟩
def s45 : Sig := ⟨[.val true [.i .u32, .i .u32, .i .u32, .i .u32, .i .u32, .i .u32], .val true [.i .u32, .i .u32, .i .u32, .i .u32, .i .u32, .i .u32]], [(true, [.i .u32, .i .u32, .i .u32, .i .u32, .i .u32, .i .u32]), (false, [.b])], true⟩
def s17 : Sig := ⟨[.val true [.b, .i .u32, .i .u32, .i .u32, .i .u32, .i .u32, .i .u32], .val true [.b, .i .u32, .i .u32, .i .u32, .i .u32, .i .u32, .i .u32]], [(true, [.b, .i .u32, .i .u32, .i .u32, .i .u32, .i .u32, .i .u32]), (false, [.i .i64])], true⟩
def s20 : Sig := ⟨[.val true [.b, .i .u32, .i .u32, .i .u32, .i .u32, .i .u32, .i .u32], .val false [.i .i64]], [(true, [.b, .i .u32, .i .u32, .i .u32, .i .u32, .i .u32, .i .u32]), (false, [.i .i64])], true⟩
def s22 : Sig := ⟨[.val true [.b, .i .u32, .i .u32, .i .u32, .i .u32, .i .u32, .i .u32], .val false [.i .i64]], [(true, [.b, .i .u32, .i .u32, .i .u32, .i .u32, .i .u32, .i .u32]), (false, [.i .i64])], true⟩
def s30 : Sig := ⟨[.val true [.b, .i .u32, .i .u32, .i .u32, .i .u32, .i .u32, .i .u32], .val false [.i .i64]], [(true, [.b, .i .u32, .i .u32, .i .u32, .i .u32, .i .u32, .i .u32]), (false, [.i .i64])], true⟩
def sigsV2 : List (Nat × Sig) := [(3, s3), (4, s4), (5, s5), (9, s9), (43, s43), (16, s16), (18, s18), (47, s47), (41, s41), (70, s70), (68, s68), (67, s67), (48, s48), (85, s85), (94, s94), (87, s87), (89, s89), (49, s49), (53, s53), (91, s91), (90, s90), (93, s93), (42, s42), (15, s15), (19, s19), (21, s21), (29, s29), (44, s44), (64, s64), (58, s58), (46, s46), (50, s50), (56, s56), (77, s77), (55, s55), (57, s57), (86, s86), (51, s51), (88, s88), (52, s52), (54, s54), (45, s45), (17, s17), (20, s20), (22, s22), (30, s30)]

end Go.Proofs.Ytmlmdicdblgcfaa.Sx

namespace Go.Proofs.Ytmlmdicdblgcfaa.Sx
open Go Go.RowKit
/-- loop.example/g01242/laws.FnExactMulWides -/
noncomputable def c3 : Cfg := ⟨Try.prog, [(16, s16), (15, s15), (17, s17), (18, s18)]⟩
def iv3 : List Iv := [⟨0, 1⟩, ⟨0, 4294967295⟩, ⟨0, 4294967295⟩, ⟨0, 4294967295⟩, ⟨0, 4294967295⟩, ⟨0, 4294967295⟩, ⟨0, 4294967295⟩, ⟨0, 1⟩, ⟨0, 4294967295⟩, ⟨0, 4294967295⟩, ⟨0, 4294967295⟩, ⟨0, 4294967295⟩, ⟨0, 4294967295⟩, ⟨0, 4294967295⟩]
def t3 : VC :=
 (.call 16 (.e (.var 0) (.e (.var 1) (.e (.var 2) (.e (.var 3) (.e (.var 4) (.e (.var 5) (.e (.var 6) .nil))))))) 7
 (.call 16 (.e (.var 7) (.e (.var 8) (.e (.var 9) (.e (.var 10) (.e (.var 11) (.e (.var 12) (.e (.var 13) .nil))))))) 7
 (.call 15 (.e (.var 14) (.e (.var 15) (.e (.var 16) (.e (.var 17) (.e (.var 18) (.e (.var 19) (.e (.var 20) (.e (.var 21) (.e (.var 22) (.e (.var 23) (.e (.var 24) (.e (.var 25) (.e (.var 26) (.e (.var 27) .nil)))))))))))))) 8
 (.call 16 (.e (.var 0) (.e (.var 1) (.e (.var 2) (.e (.var 3) (.e (.var 4) (.e (.var 5) (.e (.var 6) .nil))))))) 7
 (.call 16 (.e (.var 7) (.e (.var 8) (.e (.var 9) (.e (.var 10) (.e (.var 11) (.e (.var 12) (.e (.var 13) .nil))))))) 7
 (.call 17 (.e (.var 36) (.e (.var 37) (.e (.var 38) (.e (.var 39) (.e (.var 40) (.e (.var 41) (.e (.var 42) (.e (.var 43) (.e (.var 44) (.e (.var 45) (.e (.var 46) (.e (.var 47) (.e (.var 48) (.e (.var 49) .nil)))))))))))))) 8
 (.call 18 (.e (.var 50) (.e (.var 51) (.e (.var 52) (.e (.var 53) (.e (.var 54) (.e (.var 55) (.e (.var 56) (.e (.var 28) (.e (.var 29) (.e (.var 30) (.e (.var 31) (.e (.var 32) (.e (.var 33) (.e (.var 34) .nil)))))))))))))) 1
 (.ite (.eq (.var 58) (.lit 1))
  (.ite (.not (.eq (.var 57) (.var 35)))
   (.fin (.e (.lit 0) .nil))
   (.fin (.e (.lit 1) .nil)))
  (.fin (.e (.lit 0) .nil))))))))))
theorem v3 : vcOfI ⟨c3, []⟩ iv3 250 Try.f3 s3 = t3 := by kernel_rfl
set_option linter.unusedVariables false in
def p3 (T : Tab) (I : Nat → List Int → List Int → Prop) (M : Nat → List Int → List Int → Nat) (pre : Nat → List Int → Prop) (post : List Int → Prop) (v0 v1 v2 v3 v4 v5 v6 v7 v8 v9 v10 v11 v12 v13 : Int) : Prop :=
 ∀ v14 v15 v16 v17 v18 v19 v20 : Int, [v14, v15, v16, v17, v18, v19, v20] = T.out 16 7 [v0, v1, v2, v3, v4, v5, v6] →
 ∀ v21 v22 v23 v24 v25 v26 v27 : Int, [v21, v22, v23, v24, v25, v26, v27] = T.out 16 7 [v7, v8, v9, v10, v11, v12, v13] →
 ∀ v28 v29 v30 v31 v32 v33 v34 v35 : Int, [v28, v29, v30, v31, v32, v33, v34, v35] = T.out 15 8 [v14, v15, v16, v17, v18, v19, v20, v21, v22, v23, v24, v25, v26, v27] →
 ∀ v36 v37 v38 v39 v40 v41 v42 : Int, [v36, v37, v38, v39, v40, v41, v42] = T.out 16 7 [v0, v1, v2, v3, v4, v5, v6] →
 ∀ v43 v44 v45 v46 v47 v48 v49 : Int, [v43, v44, v45, v46, v47, v48, v49] = T.out 16 7 [v7, v8, v9, v10, v11, v12, v13] →
 ∀ v50 v51 v52 v53 v54 v55 v56 v57 : Int, [v50, v51, v52, v53, v54, v55, v56, v57] = T.out 17 8 [v36, v37, v38, v39, v40, v41, v42, v43, v44, v45, v46, v47, v48, v49] →
 ∀ v58 : Int, [v58] = T.out 18 1 [v50, v51, v52, v53, v54, v55, v56, v28, v29, v30, v31, v32, v33, v34] →
 ((decide ((v58 : Int) = 1) = true →
  (((!decide ((v57 : Int) = v35)) = true →
   post [0]) ∧ ((!decide ((v57 : Int) = v35)) = false →
   post [1]))) ∧ (decide ((v58 : Int) = 1) = false →
  post [0]))
theorem q3 (T : Tab) (I : Nat → List Int → List Int → Prop) (M : Nat → List Int → List Int → Nat) (pre : Nat → List Int → Prop) (post : List Int → Prop) (v0 v1 v2 v3 v4 v5 v6 v7 v8 v9 v10 v11 v12 v13 : Int) : t3.plain T (presL pre I M) post ⟨[v0, v1, v2, v3, v4, v5, v6, v7, v8, v9, v10, v11, v12, v13], []⟩ = p3 T I M pre post v0 v1 v2 v3 v4 v5 v6 v7 v8 v9 v10 v11 v12 v13 := by kernel_rfl
theorem k3 (T : Tab) (I : Nat → List Int → List Int → Prop) (M : Nat → List Int → List Int → Nat) (pre : Nat → List Int → Prop) (hs : SubSig T c3.sigs) (ht : Tot pre c3.sigs) (hg : T.sig 3 = some s3) (hC : CtAll Try.prog T.fns (pres pre) c3.sigs)
    (h : ∀ (v0 v1 v2 v3 v4 v5 v6 v7 v8 v9 v10 v11 v12 v13 : Int), (0 ≤ v0 ∧ v0 ≤ 1) → (0 ≤ v1 ∧ v1 ≤ 4294967295) → (0 ≤ v2 ∧ v2 ≤ 4294967295) → (0 ≤ v3 ∧ v3 ≤ 4294967295) → (0 ≤ v4 ∧ v4 ≤ 4294967295) → (0 ≤ v5 ∧ v5 ≤ 4294967295) → (0 ≤ v6 ∧ v6 ≤ 4294967295) → (0 ≤ v7 ∧ v7 ≤ 1) → (0 ≤ v8 ∧ v8 ≤ 4294967295) → (0 ≤ v9 ∧ v9 ≤ 4294967295) → (0 ≤ v10 ∧ v10 ≤ 4294967295) → (0 ≤ v11 ∧ v11 ≤ 4294967295) → (0 ≤ v12 ∧ v12 ≤ 4294967295) → (0 ≤ v13 ∧ v13 ≤ 4294967295) → pre 3 [v0, v1, v2, v3, v4, v5, v6, v7, v8, v9, v10, v11, v12, v13] → p3 T I M pre (fun ys => ys = T.fn 3 [v0, v1, v2, v3, v4, v5, v6, v7, v8, v9, v10, v11, v12, v13]) v0 v1 v2 v3 v4 v5 v6 v7 v8 v9 v10 v11 v12 v13) : CT Try.prog T.fns (pres pre) 3 s3 :=
  T.ctq (F := ⟨c3, []⟩) (fuel := 250) v3 Try.checked.mixed hs ht hg hC Try.func3 I M (fun _ h _ => h) fun xs hx hp => by
    match xs, hx, hp with
    | [v0, v1, v2, v3, v4, v5, v6, v7, v8, v9, v10, v11, v12, v13], hx, hp => rw [q3]; exact h v0 v1 v2 v3 v4 v5 v6 v7 v8 v9 v10 v11 v12 v13 hx.1 hx.2.1 hx.2.2.1 hx.2.2.2.1 hx.2.2.2.2.1 hx.2.2.2.2.2.1 hx.2.2.2.2.2.2.1 hx.2.2.2.2.2.2.2.1 hx.2.2.2.2.2.2.2.2.1 hx.2.2.2.2.2.2.2.2.2.1 hx.2.2.2.2.2.2.2.2.2.2.1 hx.2.2.2.2.2.2.2.2.2.2.2.1 hx.2.2.2.2.2.2.2.2.2.2.2.2.1 hx.2.2.2.2.2.2.2.2.2.2.2.2.2.1 hp

/-- loop.example/g01242/laws.FnExactShiftUp -/
noncomputable def c4 : Cfg := ⟨Try.prog, [(16, s16), (19, s19), (20, s20), (18, s18)]⟩
def iv4 : List Iv := [⟨0, 1⟩, ⟨0, 4294967295⟩, ⟨0, 4294967295⟩, ⟨0, 4294967295⟩, ⟨0, 4294967295⟩, ⟨0, 4294967295⟩, ⟨0, 4294967295⟩, ⟨(-9223372036854775808), 9223372036854775807⟩]
def t4 : VC :=
 (.call 16 (.e (.var 0) (.e (.var 1) (.e (.var 2) (.e (.var 3) (.e (.var 4) (.e (.var 5) (.e (.var 6) .nil))))))) 7
 (.call 19 (.e (.var 8) (.e (.var 9) (.e (.var 10) (.e (.var 11) (.e (.var 12) (.e (.var 13) (.e (.var 14) (.e (.var 7) .nil)))))))) 8
 (.call 16 (.e (.var 0) (.e (.var 1) (.e (.var 2) (.e (.var 3) (.e (.var 4) (.e (.var 5) (.e (.var 6) .nil))))))) 7
 (.call 20 (.e (.var 23) (.e (.var 24) (.e (.var 25) (.e (.var 26) (.e (.var 27) (.e (.var 28) (.e (.var 29) (.e (.var 7) .nil)))))))) 8
 (.call 18 (.e (.var 30) (.e (.var 31) (.e (.var 32) (.e (.var 33) (.e (.var 34) (.e (.var 35) (.e (.var 36) (.e (.var 15) (.e (.var 16) (.e (.var 17) (.e (.var 18) (.e (.var 19) (.e (.var 20) (.e (.var 21) .nil)))))))))))))) 1
 (.ite (.eq (.var 38) (.lit 1))
  (.ite (.not (.eq (.var 37) (.var 22)))
   (.fin (.e (.lit 0) .nil))
   (.fin (.e (.lit 1) .nil)))
  (.fin (.e (.lit 0) .nil))))))))
theorem v4 : vcOfI ⟨c4, []⟩ iv4 250 Try.f4 s4 = t4 := by kernel_rfl
set_option linter.unusedVariables false in
def p4 (T : Tab) (I : Nat → List Int → List Int → Prop) (M : Nat → List Int → List Int → Nat) (pre : Nat → List Int → Prop) (post : List Int → Prop) (v0 v1 v2 v3 v4 v5 v6 v7 : Int) : Prop :=
 ∀ v8 v9 v10 v11 v12 v13 v14 : Int, [v8, v9, v10, v11, v12, v13, v14] = T.out 16 7 [v0, v1, v2, v3, v4, v5, v6] →
 ∀ v15 v16 v17 v18 v19 v20 v21 v22 : Int, [v15, v16, v17, v18, v19, v20, v21, v22] = T.out 19 8 [v8, v9, v10, v11, v12, v13, v14, v7] →
 ∀ v23 v24 v25 v26 v27 v28 v29 : Int, [v23, v24, v25, v26, v27, v28, v29] = T.out 16 7 [v0, v1, v2, v3, v4, v5, v6] →
 ∀ v30 v31 v32 v33 v34 v35 v36 v37 : Int, [v30, v31, v32, v33, v34, v35, v36, v37] = T.out 20 8 [v23, v24, v25, v26, v27, v28, v29, v7] →
 ∀ v38 : Int, [v38] = T.out 18 1 [v30, v31, v32, v33, v34, v35, v36, v15, v16, v17, v18, v19, v20, v21] →
 ((decide ((v38 : Int) = 1) = true →
  (((!decide ((v37 : Int) = v22)) = true →
   post [0]) ∧ ((!decide ((v37 : Int) = v22)) = false →
   post [1]))) ∧ (decide ((v38 : Int) = 1) = false →
  post [0]))
theorem q4 (T : Tab) (I : Nat → List Int → List Int → Prop) (M : Nat → List Int → List Int → Nat) (pre : Nat → List Int → Prop) (post : List Int → Prop) (v0 v1 v2 v3 v4 v5 v6 v7 : Int) : t4.plain T (presL pre I M) post ⟨[v0, v1, v2, v3, v4, v5, v6, v7], []⟩ = p4 T I M pre post v0 v1 v2 v3 v4 v5 v6 v7 := by kernel_rfl
theorem k4 (T : Tab) (I : Nat → List Int → List Int → Prop) (M : Nat → List Int → List Int → Nat) (pre : Nat → List Int → Prop) (hs : SubSig T c4.sigs) (ht : Tot pre c4.sigs) (hg : T.sig 4 = some s4) (hC : CtAll Try.prog T.fns (pres pre) c4.sigs)
    (h : ∀ (v0 v1 v2 v3 v4 v5 v6 v7 : Int), (0 ≤ v0 ∧ v0 ≤ 1) → (0 ≤ v1 ∧ v1 ≤ 4294967295) → (0 ≤ v2 ∧ v2 ≤ 4294967295) → (0 ≤ v3 ∧ v3 ≤ 4294967295) → (0 ≤ v4 ∧ v4 ≤ 4294967295) → (0 ≤ v5 ∧ v5 ≤ 4294967295) → (0 ≤ v6 ∧ v6 ≤ 4294967295) → ((-9223372036854775808) ≤ v7 ∧ v7 ≤ 9223372036854775807) → pre 4 [v0, v1, v2, v3, v4, v5, v6, v7] → p4 T I M pre (fun ys => ys = T.fn 4 [v0, v1, v2, v3, v4, v5, v6, v7]) v0 v1 v2 v3 v4 v5 v6 v7) : CT Try.prog T.fns (pres pre) 4 s4 :=
  T.ctq (F := ⟨c4, []⟩) (fuel := 250) v4 Try.checked.mixed hs ht hg hC Try.func4 I M (fun _ h _ => h) fun xs hx hp => by
    match xs, hx, hp with
    | [v0, v1, v2, v3, v4, v5, v6, v7], hx, hp => rw [q4]; exact h v0 v1 v2 v3 v4 v5 v6 v7 hx.1 hx.2.1 hx.2.2.1 hx.2.2.2.1 hx.2.2.2.2.1 hx.2.2.2.2.2.1 hx.2.2.2.2.2.2.1 hx.2.2.2.2.2.2.2.1 hp

/-- loop.example/g01242/laws.FnExactShiftNear -/
noncomputable def c5 : Cfg := ⟨Try.prog, [(16, s16), (21, s21), (22, s22), (18, s18)]⟩
def iv5 : List Iv := [⟨0, 1⟩, ⟨0, 4294967295⟩, ⟨0, 4294967295⟩, ⟨0, 4294967295⟩, ⟨0, 4294967295⟩, ⟨0, 4294967295⟩, ⟨0, 4294967295⟩, ⟨(-9223372036854775808), 9223372036854775807⟩]
def t5 : VC :=
 (.call 16 (.e (.var 0) (.e (.var 1) (.e (.var 2) (.e (.var 3) (.e (.var 4) (.e (.var 5) (.e (.var 6) .nil))))))) 7
 (.call 21 (.e (.var 8) (.e (.var 9) (.e (.var 10) (.e (.var 11) (.e (.var 12) (.e (.var 13) (.e (.var 14) (.e (.var 7) .nil)))))))) 8
 (.call 16 (.e (.var 0) (.e (.var 1) (.e (.var 2) (.e (.var 3) (.e (.var 4) (.e (.var 5) (.e (.var 6) .nil))))))) 7
 (.call 22 (.e (.var 23) (.e (.var 24) (.e (.var 25) (.e (.var 26) (.e (.var 27) (.e (.var 28) (.e (.var 29) (.e (.var 7) .nil)))))))) 8
 (.call 18 (.e (.var 30) (.e (.var 31) (.e (.var 32) (.e (.var 33) (.e (.var 34) (.e (.var 35) (.e (.var 36) (.e (.var 15) (.e (.var 16) (.e (.var 17) (.e (.var 18) (.e (.var 19) (.e (.var 20) (.e (.var 21) .nil)))))))))))))) 1
 (.ite (.eq (.var 38) (.lit 1))
  (.ite (.not (.eq (.var 37) (.var 22)))
   (.fin (.e (.lit 0) .nil))
   (.fin (.e (.lit 1) .nil)))
  (.fin (.e (.lit 0) .nil))))))))
theorem v5 : vcOfI ⟨c5, []⟩ iv5 250 Try.f5 s5 = t5 := by kernel_rfl
set_option linter.unusedVariables false in
def p5 (T : Tab) (I : Nat → List Int → List Int → Prop) (M : Nat → List Int → List Int → Nat) (pre : Nat → List Int → Prop) (post : List Int → Prop) (v0 v1 v2 v3 v4 v5 v6 v7 : Int) : Prop :=
 ∀ v8 v9 v10 v11 v12 v13 v14 : Int, [v8, v9, v10, v11, v12, v13, v14] = T.out 16 7 [v0, v1, v2, v3, v4, v5, v6] →
 ∀ v15 v16 v17 v18 v19 v20 v21 v22 : Int, [v15, v16, v17, v18, v19, v20, v21, v22] = T.out 21 8 [v8, v9, v10, v11, v12, v13, v14, v7] →
 ∀ v23 v24 v25 v26 v27 v28 v29 : Int, [v23, v24, v25, v26, v27, v28, v29] = T.out 16 7 [v0, v1, v2, v3, v4, v5, v6] →
 ∀ v30 v31 v32 v33 v34 v35 v36 v37 : Int, [v30, v31, v32, v33, v34, v35, v36, v37] = T.out 22 8 [v23, v24, v25, v26, v27, v28, v29, v7] →
 ∀ v38 : Int, [v38] = T.out 18 1 [v30, v31, v32, v33, v34, v35, v36, v15, v16, v17, v18, v19, v20, v21] →
 ((decide ((v38 : Int) = 1) = true →
  (((!decide ((v37 : Int) = v22)) = true →
   post [0]) ∧ ((!decide ((v37 : Int) = v22)) = false →
   post [1]))) ∧ (decide ((v38 : Int) = 1) = false →
  post [0]))
theorem q5 (T : Tab) (I : Nat → List Int → List Int → Prop) (M : Nat → List Int → List Int → Nat) (pre : Nat → List Int → Prop) (post : List Int → Prop) (v0 v1 v2 v3 v4 v5 v6 v7 : Int) : t5.plain T (presL pre I M) post ⟨[v0, v1, v2, v3, v4, v5, v6, v7], []⟩ = p5 T I M pre post v0 v1 v2 v3 v4 v5 v6 v7 := by kernel_rfl
theorem k5 (T : Tab) (I : Nat → List Int → List Int → Prop) (M : Nat → List Int → List Int → Nat) (pre : Nat → List Int → Prop) (hs : SubSig T c5.sigs) (ht : Tot pre c5.sigs) (hg : T.sig 5 = some s5) (hC : CtAll Try.prog T.fns (pres pre) c5.sigs)
    (h : ∀ (v0 v1 v2 v3 v4 v5 v6 v7 : Int), (0 ≤ v0 ∧ v0 ≤ 1) → (0 ≤ v1 ∧ v1 ≤ 4294967295) → (0 ≤ v2 ∧ v2 ≤ 4294967295) → (0 ≤ v3 ∧ v3 ≤ 4294967295) → (0 ≤ v4 ∧ v4 ≤ 4294967295) → (0 ≤ v5 ∧ v5 ≤ 4294967295) → (0 ≤ v6 ∧ v6 ≤ 4294967295) → ((-9223372036854775808) ≤ v7 ∧ v7 ≤ 9223372036854775807) → pre 5 [v0, v1, v2, v3, v4, v5, v6, v7] → p5 T I M pre (fun ys => ys = T.fn 5 [v0, v1, v2, v3, v4, v5, v6, v7]) v0 v1 v2 v3 v4 v5 v6 v7) : CT Try.prog T.fns (pres pre) 5 s5 :=
  T.ctq (F := ⟨c5, []⟩) (fuel := 250) v5 Try.checked.mixed hs ht hg hC Try.func5 I M (fun _ h _ => h) fun xs hx hp => by
    match xs, hx, hp with
    | [v0, v1, v2, v3, v4, v5, v6, v7], hx, hp => rw [q5]; exact h v0 v1 v2 v3 v4 v5 v6 v7 hx.1 hx.2.1 hx.2.2.1 hx.2.2.2.1 hx.2.2.2.2.1 hx.2.2.2.2.2.1 hx.2.2.2.2.2.2.1 hx.2.2.2.2.2.2.2.1 hp

/-- loop.example/g01242/laws.FnExactPowerWide -/
noncomputable def c9 : Cfg := ⟨Try.prog, [(16, s16), (29, s29), (30, s30), (18, s18)]⟩
def iv9 : List Iv := [⟨0, 1⟩, ⟨0, 4294967295⟩, ⟨0, 4294967295⟩, ⟨0, 4294967295⟩, ⟨0, 4294967295⟩, ⟨0, 4294967295⟩, ⟨0, 4294967295⟩, ⟨(-9223372036854775808), 9223372036854775807⟩]
def t9 : VC :=
 (.call 16 (.e (.var 0) (.e (.var 1) (.e (.var 2) (.e (.var 3) (.e (.var 4) (.e (.var 5) (.e (.var 6) .nil))))))) 7
 (.call 29 (.e (.var 8) (.e (.var 9) (.e (.var 10) (.e (.var 11) (.e (.var 12) (.e (.var 13) (.e (.var 14) (.e (.var 7) .nil)))))))) 8
 (.call 16 (.e (.var 0) (.e (.var 1) (.e (.var 2) (.e (.var 3) (.e (.var 4) (.e (.var 5) (.e (.var 6) .nil))))))) 7
 (.call 30 (.e (.var 23) (.e (.var 24) (.e (.var 25) (.e (.var 26) (.e (.var 27) (.e (.var 28) (.e (.var 29) (.e (.var 7) .nil)))))))) 8
 (.call 18 (.e (.var 30) (.e (.var 31) (.e (.var 32) (.e (.var 33) (.e (.var 34) (.e (.var 35) (.e (.var 36) (.e (.var 15) (.e (.var 16) (.e (.var 17) (.e (.var 18) (.e (.var 19) (.e (.var 20) (.e (.var 21) .nil)))))))))))))) 1
 (.ite (.eq (.var 38) (.lit 1))
  (.ite (.not (.eq (.var 37) (.var 22)))
   (.fin (.e (.lit 0) .nil))
   (.fin (.e (.lit 1) .nil)))
  (.fin (.e (.lit 0) .nil))))))))
theorem v9 : vcOfI ⟨c9, []⟩ iv9 250 Try.f9 s9 = t9 := by kernel_rfl
set_option linter.unusedVariables false in
def p9 (T : Tab) (I : Nat → List Int → List Int → Prop) (M : Nat → List Int → List Int → Nat) (pre : Nat → List Int → Prop) (post : List Int → Prop) (v0 v1 v2 v3 v4 v5 v6 v7 : Int) : Prop :=
 ∀ v8 v9 v10 v11 v12 v13 v14 : Int, [v8, v9, v10, v11, v12, v13, v14] = T.out 16 7 [v0, v1, v2, v3, v4, v5, v6] →
 ∀ v15 v16 v17 v18 v19 v20 v21 v22 : Int, [v15, v16, v17, v18, v19, v20, v21, v22] = T.out 29 8 [v8, v9, v10, v11, v12, v13, v14, v7] →
 ∀ v23 v24 v25 v26 v27 v28 v29 : Int, [v23, v24, v25, v26, v27, v28, v29] = T.out 16 7 [v0, v1, v2, v3, v4, v5, v6] →
 ∀ v30 v31 v32 v33 v34 v35 v36 v37 : Int, [v30, v31, v32, v33, v34, v35, v36, v37] = T.out 30 8 [v23, v24, v25, v26, v27, v28, v29, v7] →
 ∀ v38 : Int, [v38] = T.out 18 1 [v30, v31, v32, v33, v34, v35, v36, v15, v16, v17, v18, v19, v20, v21] →
 ((decide ((v38 : Int) = 1) = true →
  (((!decide ((v37 : Int) = v22)) = true →
   post [0]) ∧ ((!decide ((v37 : Int) = v22)) = false →
   post [1]))) ∧ (decide ((v38 : Int) = 1) = false →
  post [0]))
theorem q9 (T : Tab) (I : Nat → List Int → List Int → Prop) (M : Nat → List Int → List Int → Nat) (pre : Nat → List Int → Prop) (post : List Int → Prop) (v0 v1 v2 v3 v4 v5 v6 v7 : Int) : t9.plain T (presL pre I M) post ⟨[v0, v1, v2, v3, v4, v5, v6, v7], []⟩ = p9 T I M pre post v0 v1 v2 v3 v4 v5 v6 v7 := by kernel_rfl
theorem k9 (T : Tab) (I : Nat → List Int → List Int → Prop) (M : Nat → List Int → List Int → Nat) (pre : Nat → List Int → Prop) (hs : SubSig T c9.sigs) (ht : Tot pre c9.sigs) (hg : T.sig 9 = some s9) (hC : CtAll Try.prog T.fns (pres pre) c9.sigs)
    (h : ∀ (v0 v1 v2 v3 v4 v5 v6 v7 : Int), (0 ≤ v0 ∧ v0 ≤ 1) → (0 ≤ v1 ∧ v1 ≤ 4294967295) → (0 ≤ v2 ∧ v2 ≤ 4294967295) → (0 ≤ v3 ∧ v3 ≤ 4294967295) → (0 ≤ v4 ∧ v4 ≤ 4294967295) → (0 ≤ v5 ∧ v5 ≤ 4294967295) → (0 ≤ v6 ∧ v6 ≤ 4294967295) → ((-9223372036854775808) ≤ v7 ∧ v7 ≤ 9223372036854775807) → pre 9 [v0, v1, v2, v3, v4, v5, v6, v7] → p9 T I M pre (fun ys => ys = T.fn 9 [v0, v1, v2, v3, v4, v5, v6, v7]) v0 v1 v2 v3 v4 v5 v6 v7) : CT Try.prog T.fns (pres pre) 9 s9 :=
  T.ctq (F := ⟨c9, []⟩) (fuel := 250) v9 Try.checked.mixed hs ht hg hC Try.func9 I M (fun _ h _ => h) fun xs hx hp => by
    match xs, hx, hp with
    | [v0, v1, v2, v3, v4, v5, v6, v7], hx, hp => rw [q9]; exact h v0 v1 v2 v3 v4 v5 v6 v7 hx.1 hx.2.1 hx.2.2.1 hx.2.2.2.1 hx.2.2.2.2.1 hx.2.2.2.2.2.1 hx.2.2.2.2.2.2.1 hx.2.2.2.2.2.2.2.1 hp

/-- loop.example/g01242/laws.toUint32A6 -/
noncomputable def c43 : Cfg := ⟨Try.prog, []⟩
def iv43 : List Iv := [⟨0, 4294967295⟩, ⟨0, 4294967295⟩, ⟨0, 4294967295⟩, ⟨0, 4294967295⟩, ⟨0, 4294967295⟩, ⟨0, 4294967295⟩]
def t43 : VC :=
 (.fin (.e (.var 0) (.e (.var 1) (.e (.var 2) (.e (.var 3) (.e (.var 4) (.e (.var 5) .nil)))))))
theorem v43 : vcOfI ⟨c43, []⟩ iv43 250 Try.f43 s43 = t43 := by kernel_rfl
set_option linter.unusedVariables false in
def p43 (T : Tab) (I : Nat → List Int → List Int → Prop) (M : Nat → List Int → List Int → Nat) (pre : Nat → List Int → Prop) (post : List Int → Prop) (v0 v1 v2 v3 v4 v5 : Int) : Prop :=
 post [v0, v1, v2, v3, v4, v5]
theorem q43 (T : Tab) (I : Nat → List Int → List Int → Prop) (M : Nat → List Int → List Int → Nat) (pre : Nat → List Int → Prop) (post : List Int → Prop) (v0 v1 v2 v3 v4 v5 : Int) : t43.plain T (presL pre I M) post ⟨[v0, v1, v2, v3, v4, v5], []⟩ = p43 T I M pre post v0 v1 v2 v3 v4 v5 := by kernel_rfl
theorem k43 (T : Tab) (I : Nat → List Int → List Int → Prop) (M : Nat → List Int → List Int → Nat) (pre : Nat → List Int → Prop) (hs : SubSig T c43.sigs) (ht : Tot pre c43.sigs) (hg : T.sig 43 = some s43) (hC : CtAll Try.prog T.fns (pres pre) c43.sigs)
    (h : ∀ (v0 v1 v2 v3 v4 v5 : Int), (0 ≤ v0 ∧ v0 ≤ 4294967295) → (0 ≤ v1 ∧ v1 ≤ 4294967295) → (0 ≤ v2 ∧ v2 ≤ 4294967295) → (0 ≤ v3 ∧ v3 ≤ 4294967295) → (0 ≤ v4 ∧ v4 ≤ 4294967295) → (0 ≤ v5 ∧ v5 ≤ 4294967295) → pre 43 [v0, v1, v2, v3, v4, v5] → p43 T I M pre (fun ys => ys = T.fn 43 [v0, v1, v2, v3, v4, v5]) v0 v1 v2 v3 v4 v5) : CT Try.prog T.fns (pres pre) 43 s43 :=
  T.ctq (F := ⟨c43, []⟩) (fuel := 250) v43 Try.checked.mixed hs ht hg hC Try.func43 I M (fun _ h _ => h) fun xs hx hp => by
    match xs, hx, hp with
    | [v0, v1, v2, v3, v4, v5], hx, hp => rw [q43]; exact h v0 v1 v2 v3 v4 v5 hx.1 hx.2.1 hx.2.2.1 hx.2.2.2.1 hx.2.2.2.2.1 hx.2.2.2.2.2.1 hp

/-- loop.example/g01242/laws.toWide -/
noncomputable def c16 : Cfg := ⟨Try.prog, [(43, s43)]⟩
def iv16 : List Iv := [⟨0, 1⟩, ⟨0, 4294967295⟩, ⟨0, 4294967295⟩, ⟨0, 4294967295⟩, ⟨0, 4294967295⟩, ⟨0, 4294967295⟩, ⟨0, 4294967295⟩]
def t16 : VC :=
 (.call 43 (.e (.var 1) (.e (.var 2) (.e (.var 3) (.e (.var 4) (.e (.var 5) (.e (.var 6) .nil)))))) 6
 (.fin (.e (.var 0) (.e (.var 7) (.e (.var 8) (.e (.var 9) (.e (.var 10) (.e (.var 11) (.e (.var 12) .nil)))))))))
theorem v16 : vcOfI ⟨c16, []⟩ iv16 250 Try.f16 s16 = t16 := by kernel_rfl
set_option linter.unusedVariables false in
def p16 (T : Tab) (I : Nat → List Int → List Int → Prop) (M : Nat → List Int → List Int → Nat) (pre : Nat → List Int → Prop) (post : List Int → Prop) (v0 v1 v2 v3 v4 v5 v6 : Int) : Prop :=
 ∀ v7 v8 v9 v10 v11 v12 : Int, [v7, v8, v9, v10, v11, v12] = T.out 43 6 [v1, v2, v3, v4, v5, v6] →
 post [v0, v7, v8, v9, v10, v11, v12]
theorem q16 (T : Tab) (I : Nat → List Int → List Int → Prop) (M : Nat → List Int → List Int → Nat) (pre : Nat → List Int → Prop) (post : List Int → Prop) (v0 v1 v2 v3 v4 v5 v6 : Int) : t16.plain T (presL pre I M) post ⟨[v0, v1, v2, v3, v4, v5, v6], []⟩ = p16 T I M pre post v0 v1 v2 v3 v4 v5 v6 := by kernel_rfl
theorem k16 (T : Tab) (I : Nat → List Int → List Int → Prop) (M : Nat → List Int → List Int → Nat) (pre : Nat → List Int → Prop) (hs : SubSig T c16.sigs) (ht : Tot pre c16.sigs) (hg : T.sig 16 = some s16) (hC : CtAll Try.prog T.fns (pres pre) c16.sigs)
    (h : ∀ (v0 v1 v2 v3 v4 v5 v6 : Int), (0 ≤ v0 ∧ v0 ≤ 1) → (0 ≤ v1 ∧ v1 ≤ 4294967295) → (0 ≤ v2 ∧ v2 ≤ 4294967295) → (0 ≤ v3 ∧ v3 ≤ 4294967295) → (0 ≤ v4 ∧ v4 ≤ 4294967295) → (0 ≤ v5 ∧ v5 ≤ 4294967295) → (0 ≤ v6 ∧ v6 ≤ 4294967295) → pre 16 [v0, v1, v2, v3, v4, v5, v6] → p16 T I M pre (fun ys => ys = T.fn 16 [v0, v1, v2, v3, v4, v5, v6]) v0 v1 v2 v3 v4 v5 v6) : CT Try.prog T.fns (pres pre) 16 s16 :=
  T.ctq (F := ⟨c16, []⟩) (fuel := 250) v16 Try.checked.mixed hs ht hg hC Try.func16 I M (fun _ h _ => h) fun xs hx hp => by
    match xs, hx, hp with
    | [v0, v1, v2, v3, v4, v5, v6], hx, hp => rw [q16]; exact h v0 v1 v2 v3 v4 v5 v6 hx.1 hx.2.1 hx.2.2.1 hx.2.2.2.1 hx.2.2.2.2.1 hx.2.2.2.2.2.1 hx.2.2.2.2.2.2.1 hp

/-- loop.example/g01242/laws.eqWide -/
noncomputable def c18 : Cfg := ⟨Try.prog, [(47, s47)]⟩
def iv18 : List Iv := [⟨0, 1⟩, ⟨0, 4294967295⟩, ⟨0, 4294967295⟩, ⟨0, 4294967295⟩, ⟨0, 4294967295⟩, ⟨0, 4294967295⟩, ⟨0, 4294967295⟩, ⟨0, 1⟩, ⟨0, 4294967295⟩, ⟨0, 4294967295⟩, ⟨0, 4294967295⟩, ⟨0, 4294967295⟩, ⟨0, 4294967295⟩, ⟨0, 4294967295⟩]
def t18 : VC :=
 (.ite (.not (.beq (.eq (.var 0) (.lit 1)) (.eq (.var 7) (.lit 1))))
  (.fin (.e (.lit 0) .nil))
  (.call 47 (.e (.var 1) (.e (.var 2) (.e (.var 3) (.e (.var 4) (.e (.var 5) (.e (.var 6) (.e (.var 8) (.e (.var 9) (.e (.var 10) (.e (.var 11) (.e (.var 12) (.e (.var 13) .nil)))))))))))) 1
  (.ite (.not (.eq (.var 14) (.lit 1)))
   (.fin (.e (.lit 0) .nil))
   (.fin (.e (.lit 1) .nil)))))
theorem v18 : vcOfI ⟨c18, []⟩ iv18 250 Try.f18 s18 = t18 := by kernel_rfl
set_option linter.unusedVariables false in
def p18 (T : Tab) (I : Nat → List Int → List Int → Prop) (M : Nat → List Int → List Int → Nat) (pre : Nat → List Int → Prop) (post : List Int → Prop) (v0 v1 v2 v3 v4 v5 v6 v7 v8 v9 v10 v11 v12 v13 : Int) : Prop :=
 (((!(decide ((v0 : Int) = 1) == decide ((v7 : Int) = 1))) = true →
  post [0]) ∧ ((!(decide ((v0 : Int) = 1) == decide ((v7 : Int) = 1))) = false →
  ∀ v14 : Int, [v14] = T.out 47 1 [v1, v2, v3, v4, v5, v6, v8, v9, v10, v11, v12, v13] →
  (((!decide ((v14 : Int) = 1)) = true →
   post [0]) ∧ ((!decide ((v14 : Int) = 1)) = false →
   post [1]))))
theorem q18 (T : Tab) (I : Nat → List Int → List Int → Prop) (M : Nat → List Int → List Int → Nat) (pre : Nat → List Int → Prop) (post : List Int → Prop) (v0 v1 v2 v3 v4 v5 v6 v7 v8 v9 v10 v11 v12 v13 : Int) : t18.plain T (presL pre I M) post ⟨[v0, v1, v2, v3, v4, v5, v6, v7, v8, v9, v10, v11, v12, v13], []⟩ = p18 T I M pre post v0 v1 v2 v3 v4 v5 v6 v7 v8 v9 v10 v11 v12 v13 := by kernel_rfl
theorem k18 (T : Tab) (I : Nat → List Int → List Int → Prop) (M : Nat → List Int → List Int → Nat) (pre : Nat → List Int → Prop) (hs : SubSig T c18.sigs) (ht : Tot pre c18.sigs) (hg : T.sig 18 = some s18) (hC : CtAll Try.prog T.fns (pres pre) c18.sigs)
    (h : ∀ (v0 v1 v2 v3 v4 v5 v6 v7 v8 v9 v10 v11 v12 v13 : Int), (0 ≤ v0 ∧ v0 ≤ 1) → (0 ≤ v1 ∧ v1 ≤ 4294967295) → (0 ≤ v2 ∧ v2 ≤ 4294967295) → (0 ≤ v3 ∧ v3 ≤ 4294967295) → (0 ≤ v4 ∧ v4 ≤ 4294967295) → (0 ≤ v5 ∧ v5 ≤ 4294967295) → (0 ≤ v6 ∧ v6 ≤ 4294967295) → (0 ≤ v7 ∧ v7 ≤ 1) → (0 ≤ v8 ∧ v8 ≤ 4294967295) → (0 ≤ v9 ∧ v9 ≤ 4294967295) → (0 ≤ v10 ∧ v10 ≤ 4294967295) → (0 ≤ v11 ∧ v11 ≤ 4294967295) → (0 ≤ v12 ∧ v12 ≤ 4294967295) → (0 ≤ v13 ∧ v13 ≤ 4294967295) → pre 18 [v0, v1, v2, v3, v4, v5, v6, v7, v8, v9, v10, v11, v12, v13] → p18 T I M pre (fun ys => ys = T.fn 18 [v0, v1, v2, v3, v4, v5, v6, v7, v8, v9, v10, v11, v12, v13]) v0 v1 v2 v3 v4 v5 v6 v7 v8 v9 v10 v11 v12 v13) : CT Try.prog T.fns (pres pre) 18 s18 :=
  T.ctq (F := ⟨c18, []⟩) (fuel := 250) v18 Try.checked.mixed hs ht hg hC Try.func18 I M (fun _ h _ => h) fun xs hx hp => by
    match xs, hx, hp with
    | [v0, v1, v2, v3, v4, v5, v6, v7, v8, v9, v10, v11, v12, v13], hx, hp => rw [q18]; exact h v0 v1 v2 v3 v4 v5 v6 v7 v8 v9 v10 v11 v12 v13 hx.1 hx.2.1 hx.2.2.1 hx.2.2.2.1 hx.2.2.2.2.1 hx.2.2.2.2.2.1 hx.2.2.2.2.2.2.1 hx.2.2.2.2.2.2.2.1 hx.2.2.2.2.2.2.2.2.1 hx.2.2.2.2.2.2.2.2.2.1 hx.2.2.2.2.2.2.2.2.2.2.1 hx.2.2.2.2.2.2.2.2.2.2.2.1 hx.2.2.2.2.2.2.2.2.2.2.2.2.1 hx.2.2.2.2.2.2.2.2.2.2.2.2.2.1 hp

/-- loop.example/g01242/laws.eqUint32A6 -/
noncomputable def c47 : Cfg := ⟨Try.prog, []⟩
def iv47 : List Iv := [⟨0, 4294967295⟩, ⟨0, 4294967295⟩, ⟨0, 4294967295⟩, ⟨0, 4294967295⟩, ⟨0, 4294967295⟩, ⟨0, 4294967295⟩, ⟨0, 4294967295⟩, ⟨0, 4294967295⟩, ⟨0, 4294967295⟩, ⟨0, 4294967295⟩, ⟨0, 4294967295⟩, ⟨0, 4294967295⟩]
def t47 : VC :=
 (.ite (.not (.eq (.var 0) (.var 6)))
  (.fin (.e (.lit 0) .nil))
  (.ite (.not (.eq (.var 1) (.var 7)))
   (.fin (.e (.lit 0) .nil))
   (.ite (.not (.eq (.var 2) (.var 8)))
    (.fin (.e (.lit 0) .nil))
    (.ite (.not (.eq (.var 3) (.var 9)))
     (.fin (.e (.lit 0) .nil))
     (.ite (.not (.eq (.var 4) (.var 10)))
      (.fin (.e (.lit 0) .nil))
      (.ite (.not (.eq (.var 5) (.var 11)))
       (.fin (.e (.lit 0) .nil))
       (.fin (.e (.lit 1) .nil))))))))
theorem v47 : vcOfI ⟨c47, []⟩ iv47 250 Try.f47 s47 = t47 := by kernel_rfl
set_option linter.unusedVariables false in
def p47 (T : Tab) (I : Nat → List Int → List Int → Prop) (M : Nat → List Int → List Int → Nat) (pre : Nat → List Int → Prop) (post : List Int → Prop) (v0 v1 v2 v3 v4 v5 v6 v7 v8 v9 v10 v11 : Int) : Prop :=
 (((!decide ((v0 : Int) = v6)) = true →
  post [0]) ∧ ((!decide ((v0 : Int) = v6)) = false →
  (((!decide ((v1 : Int) = v7)) = true →
   post [0]) ∧ ((!decide ((v1 : Int) = v7)) = false →
   (((!decide ((v2 : Int) = v8)) = true →
    post [0]) ∧ ((!decide ((v2 : Int) = v8)) = false →
    (((!decide ((v3 : Int) = v9)) = true →
     post [0]) ∧ ((!decide ((v3 : Int) = v9)) = false →
     (((!decide ((v4 : Int) = v10)) = true →
      post [0]) ∧ ((!decide ((v4 : Int) = v10)) = false →
      (((!decide ((v5 : Int) = v11)) = true →
       post [0]) ∧ ((!decide ((v5 : Int) = v11)) = false →
       post [1]))))))))))))
theorem q47 (T : Tab) (I : Nat → List Int → List Int → Prop) (M : Nat → List Int → List Int → Nat) (pre : Nat → List Int → Prop) (post : List Int → Prop) (v0 v1 v2 v3 v4 v5 v6 v7 v8 v9 v10 v11 : Int) : t47.plain T (presL pre I M) post ⟨[v0, v1, v2, v3, v4, v5, v6, v7, v8, v9, v10, v11], []⟩ = p47 T I M pre post v0 v1 v2 v3 v4 v5 v6 v7 v8 v9 v10 v11 := by kernel_rfl
theorem k47 (T : Tab) (I : Nat → List Int → List Int → Prop) (M : Nat → List Int → List Int → Nat) (pre : Nat → List Int → Prop) (hs : SubSig T c47.sigs) (ht : Tot pre c47.sigs) (hg : T.sig 47 = some s47) (hC : CtAll Try.prog T.fns (pres pre) c47.sigs)
    (h : ∀ (v0 v1 v2 v3 v4 v5 v6 v7 v8 v9 v10 v11 : Int), (0 ≤ v0 ∧ v0 ≤ 4294967295) → (0 ≤ v1 ∧ v1 ≤ 4294967295) → (0 ≤ v2 ∧ v2 ≤ 4294967295) → (0 ≤ v3 ∧ v3 ≤ 4294967295) → (0 ≤ v4 ∧ v4 ≤ 4294967295) → (0 ≤ v5 ∧ v5 ≤ 4294967295) → (0 ≤ v6 ∧ v6 ≤ 4294967295) → (0 ≤ v7 ∧ v7 ≤ 4294967295) → (0 ≤ v8 ∧ v8 ≤ 4294967295) → (0 ≤ v9 ∧ v9 ≤ 4294967295) → (0 ≤ v10 ∧ v10 ≤ 4294967295) → (0 ≤ v11 ∧ v11 ≤ 4294967295) → pre 47 [v0, v1, v2, v3, v4, v5, v6, v7, v8, v9, v10, v11] → p47 T I M pre (fun ys => ys = T.fn 47 [v0, v1, v2, v3, v4, v5, v6, v7, v8, v9, v10, v11]) v0 v1 v2 v3 v4 v5 v6 v7 v8 v9 v10 v11) : CT Try.prog T.fns (pres pre) 47 s47 :=
  T.ctq (F := ⟨c47, []⟩) (fuel := 250) v47 Try.checked.mixed hs ht hg hC Try.func47 I M (fun _ h _ => h) fun xs hx hp => by
    match xs, hx, hp with
    | [v0, v1, v2, v3, v4, v5, v6, v7, v8, v9, v10, v11], hx, hp => rw [q47]; exact h v0 v1 v2 v3 v4 v5 v6 v7 v8 v9 v10 v11 hx.1 hx.2.1 hx.2.2.1 hx.2.2.2.1 hx.2.2.2.2.1 hx.2.2.2.2.2.1 hx.2.2.2.2.2.2.1 hx.2.2.2.2.2.2.2.1 hx.2.2.2.2.2.2.2.2.1 hx.2.2.2.2.2.2.2.2.2.1 hx.2.2.2.2.2.2.2.2.2.2.1 hx.2.2.2.2.2.2.2.2.2.2.2.1 hp

/-- loop.example/g01242/spec.l01Ok -/
noncomputable def c41 : Cfg := ⟨Try.prog, []⟩
def iv41 : List Iv := [⟨0, 1⟩, ⟨0, 4294967295⟩, ⟨0, 4294967295⟩, ⟨0, 4294967295⟩, ⟨0, 4294967295⟩, ⟨0, 4294967295⟩, ⟨0, 4294967295⟩]
def t41 : VC :=
 (.ite (.eq (.var 0) (.lit 1))
  (.bind (.ite (.not (.and (.eq (.var 1) (.lit 0)) (.and (.eq (.var 2) (.lit 0)) (.and (.eq (.var 3) (.lit 0)) (.and (.eq (.var 4) (.lit 0)) (.and (.eq (.var 5) (.lit 0)) (.eq (.var 6) (.lit 0)))))))) (.lit 1) (.lit 0))
  (.fin (.e (.var 7) .nil)))
  (.fin (.e (.lit 1) .nil)))
theorem v41 : vcOfI ⟨c41, []⟩ iv41 250 Try.f41 s41 = t41 := by kernel_rfl
set_option linter.unusedVariables false in
def p41 (T : Tab) (I : Nat → List Int → List Int → Prop) (M : Nat → List Int → List Int → Nat) (pre : Nat → List Int → Prop) (post : List Int → Prop) (v0 v1 v2 v3 v4 v5 v6 : Int) : Prop :=
 ((decide ((v0 : Int) = 1) = true →
  ∀ v7 : Int, v7 = (if (!(decide ((v1 : Int) = 0) && (decide ((v2 : Int) = 0) && (decide ((v3 : Int) = 0) && (decide ((v4 : Int) = 0) && (decide ((v5 : Int) = 0) && decide ((v6 : Int) = 0))))))) = true then 1 else 0) →
  post [v7]) ∧ (decide ((v0 : Int) = 1) = false →
  post [1]))
theorem q41 (T : Tab) (I : Nat → List Int → List Int → Prop) (M : Nat → List Int → List Int → Nat) (pre : Nat → List Int → Prop) (post : List Int → Prop) (v0 v1 v2 v3 v4 v5 v6 : Int) : t41.plain T (presL pre I M) post ⟨[v0, v1, v2, v3, v4, v5, v6], []⟩ = p41 T I M pre post v0 v1 v2 v3 v4 v5 v6 := by kernel_rfl
theorem k41 (T : Tab) (I : Nat → List Int → List Int → Prop) (M : Nat → List Int → List Int → Nat) (pre : Nat → List Int → Prop) (hs : SubSig T c41.sigs) (ht : Tot pre c41.sigs) (hg : T.sig 41 = some s41) (hC : CtAll Try.prog T.fns (pres pre) c41.sigs)
    (h : ∀ (v0 v1 v2 v3 v4 v5 v6 : Int), (0 ≤ v0 ∧ v0 ≤ 1) → (0 ≤ v1 ∧ v1 ≤ 4294967295) → (0 ≤ v2 ∧ v2 ≤ 4294967295) → (0 ≤ v3 ∧ v3 ≤ 4294967295) → (0 ≤ v4 ∧ v4 ≤ 4294967295) → (0 ≤ v5 ∧ v5 ≤ 4294967295) → (0 ≤ v6 ∧ v6 ≤ 4294967295) → pre 41 [v0, v1, v2, v3, v4, v5, v6] → p41 T I M pre (fun ys => ys = T.fn 41 [v0, v1, v2, v3, v4, v5, v6]) v0 v1 v2 v3 v4 v5 v6) : CT Try.prog T.fns (pres pre) 41 s41 :=
  T.ctq (F := ⟨c41, []⟩) (fuel := 250) v41 Try.checked.mixed hs ht hg hC Try.func41 I M (fun _ h _ => h) fun xs hx hp => by
    match xs, hx, hp with
    | [v0, v1, v2, v3, v4, v5, v6], hx, hp => rw [q41]; exact h v0 v1 v2 v3 v4 v5 v6 hx.1 hx.2.1 hx.2.2.1 hx.2.2.2.1 hx.2.2.2.2.1 hx.2.2.2.2.2.1 hx.2.2.2.2.2.2.1 hp

/-- loop.example/g01242/spec.l01Made -/
noncomputable def c70 : Cfg := ⟨Try.prog, [(68, s68)]⟩
def iv70 : List Iv := [⟨0, 1⟩, ⟨0, 4294967295⟩, ⟨0, 4294967295⟩, ⟨0, 4294967295⟩, ⟨0, 4294967295⟩, ⟨0, 4294967295⟩, ⟨0, 4294967295⟩]
def t70 : VC :=
 (.ite (.eq (.var 0) (.lit 1))
  (.call 68 (.e (.var 1) (.e (.var 2) (.e (.var 3) (.e (.var 4) (.e (.var 5) (.e (.var 6) .nil)))))) 1
  (.fin (.e (.ite (.not (.eq (.var 7) (.lit 1))) (.lit 1) (.lit 0)) (.e (.var 1) (.e (.var 2) (.e (.var 3) (.e (.var 4) (.e (.var 5) (.e (.var 6) .nil)))))))))
  (.fin (.e (.lit 0) (.e (.var 1) (.e (.var 2) (.e (.var 3) (.e (.var 4) (.e (.var 5) (.e (.var 6) .nil)))))))))
theorem v70 : vcOfI ⟨c70, []⟩ iv70 250 Try.f70 s70 = t70 := by kernel_rfl
set_option linter.unusedVariables false in
def p70 (T : Tab) (I : Nat → List Int → List Int → Prop) (M : Nat → List Int → List Int → Nat) (pre : Nat → List Int → Prop) (post : List Int → Prop) (v0 v1 v2 v3 v4 v5 v6 : Int) : Prop :=
 ((decide ((v0 : Int) = 1) = true →
  ∀ v7 : Int, [v7] = T.out 68 1 [v1, v2, v3, v4, v5, v6] →
  post [(if (!decide ((v7 : Int) = 1)) = true then 1 else 0), v1, v2, v3, v4, v5, v6]) ∧ (decide ((v0 : Int) = 1) = false →
  post [0, v1, v2, v3, v4, v5, v6]))
theorem q70 (T : Tab) (I : Nat → List Int → List Int → Prop) (M : Nat → List Int → List Int → Nat) (pre : Nat → List Int → Prop) (post : List Int → Prop) (v0 v1 v2 v3 v4 v5 v6 : Int) : t70.plain T (presL pre I M) post ⟨[v0, v1, v2, v3, v4, v5, v6], []⟩ = p70 T I M pre post v0 v1 v2 v3 v4 v5 v6 := by kernel_rfl
theorem k70 (T : Tab) (I : Nat → List Int → List Int → Prop) (M : Nat → List Int → List Int → Nat) (pre : Nat → List Int → Prop) (hs : SubSig T c70.sigs) (ht : Tot pre c70.sigs) (hg : T.sig 70 = some s70) (hC : CtAll Try.prog T.fns (pres pre) c70.sigs)
    (h : ∀ (v0 v1 v2 v3 v4 v5 v6 : Int), (0 ≤ v0 ∧ v0 ≤ 1) → (0 ≤ v1 ∧ v1 ≤ 4294967295) → (0 ≤ v2 ∧ v2 ≤ 4294967295) → (0 ≤ v3 ∧ v3 ≤ 4294967295) → (0 ≤ v4 ∧ v4 ≤ 4294967295) → (0 ≤ v5 ∧ v5 ≤ 4294967295) → (0 ≤ v6 ∧ v6 ≤ 4294967295) → pre 70 [v0, v1, v2, v3, v4, v5, v6] → p70 T I M pre (fun ys => ys = T.fn 70 [v0, v1, v2, v3, v4, v5, v6]) v0 v1 v2 v3 v4 v5 v6) : CT Try.prog T.fns (pres pre) 70 s70 :=
  T.ctq (F := ⟨c70, []⟩) (fuel := 250) v70 Try.checked.mixed hs ht hg hC Try.func70 I M (fun _ h _ => h) fun xs hx hp => by
    match xs, hx, hp with
    | [v0, v1, v2, v3, v4, v5, v6], hx, hp => rw [q70]; exact h v0 v1 v2 v3 v4 v5 v6 hx.1 hx.2.1 hx.2.2.1 hx.2.2.2.1 hx.2.2.2.2.1 hx.2.2.2.2.2.1 hx.2.2.2.2.2.2.1 hp

/-- loop.example/g01242/spec.l01Zero -/
noncomputable def c68 : Cfg := ⟨Try.prog, []⟩
def iv68 : List Iv := [⟨0, 4294967295⟩, ⟨0, 4294967295⟩, ⟨0, 4294967295⟩, ⟨0, 4294967295⟩, ⟨0, 4294967295⟩, ⟨0, 4294967295⟩]
def t68 : VC :=
 (.bind (.ite (.and (.eq (.var 0) (.lit 0)) (.and (.eq (.var 1) (.lit 0)) (.and (.eq (.var 2) (.lit 0)) (.and (.eq (.var 3) (.lit 0)) (.and (.eq (.var 4) (.lit 0)) (.eq (.var 5) (.lit 0))))))) (.lit 1) (.lit 0))
 (.fin (.e (.var 6) .nil)))
theorem v68 : vcOfI ⟨c68, []⟩ iv68 250 Try.f68 s68 = t68 := by kernel_rfl
set_option linter.unusedVariables false in
def p68 (T : Tab) (I : Nat → List Int → List Int → Prop) (M : Nat → List Int → List Int → Nat) (pre : Nat → List Int → Prop) (post : List Int → Prop) (v0 v1 v2 v3 v4 v5 : Int) : Prop :=
 ∀ v6 : Int, v6 = (if (decide ((v0 : Int) = 0) && (decide ((v1 : Int) = 0) && (decide ((v2 : Int) = 0) && (decide ((v3 : Int) = 0) && (decide ((v4 : Int) = 0) && decide ((v5 : Int) = 0)))))) = true then 1 else 0) →
 post [v6]
theorem q68 (T : Tab) (I : Nat → List Int → List Int → Prop) (M : Nat → List Int → List Int → Nat) (pre : Nat → List Int → Prop) (post : List Int → Prop) (v0 v1 v2 v3 v4 v5 : Int) : t68.plain T (presL pre I M) post ⟨[v0, v1, v2, v3, v4, v5], []⟩ = p68 T I M pre post v0 v1 v2 v3 v4 v5 := by kernel_rfl
theorem k68 (T : Tab) (I : Nat → List Int → List Int → Prop) (M : Nat → List Int → List Int → Nat) (pre : Nat → List Int → Prop) (hs : SubSig T c68.sigs) (ht : Tot pre c68.sigs) (hg : T.sig 68 = some s68) (hC : CtAll Try.prog T.fns (pres pre) c68.sigs)
    (h : ∀ (v0 v1 v2 v3 v4 v5 : Int), (0 ≤ v0 ∧ v0 ≤ 4294967295) → (0 ≤ v1 ∧ v1 ≤ 4294967295) → (0 ≤ v2 ∧ v2 ≤ 4294967295) → (0 ≤ v3 ∧ v3 ≤ 4294967295) → (0 ≤ v4 ∧ v4 ≤ 4294967295) → (0 ≤ v5 ∧ v5 ≤ 4294967295) → pre 68 [v0, v1, v2, v3, v4, v5] → p68 T I M pre (fun ys => ys = T.fn 68 [v0, v1, v2, v3, v4, v5]) v0 v1 v2 v3 v4 v5) : CT Try.prog T.fns (pres pre) 68 s68 :=
  T.ctq (F := ⟨c68, []⟩) (fuel := 250) v68 Try.checked.mixed hs ht hg hC Try.func68 I M (fun _ h _ => h) fun xs hx hp => by
    match xs, hx, hp with
    | [v0, v1, v2, v3, v4, v5], hx, hp => rw [q68]; exact h v0 v1 v2 v3 v4 v5 hx.1 hx.2.1 hx.2.2.1 hx.2.2.2.1 hx.2.2.2.2.1 hx.2.2.2.2.2.1 hp

/-- loop.example/g01242/spec.l01Of -/
noncomputable def c67 : Cfg := ⟨Try.prog, [(70, s70)]⟩
def iv67 : List Iv := [⟨(-9223372036854775808), 9223372036854775807⟩]
def t67 : VC :=
 (.bind (.wrap .u64 (.var 0))
 (.ite (.lt (.var 0) (.lit 0))
  (.bind (.wrap .u64 (.sub (.lit 0) (.var 1)))
  (.bind (.wrap .u32 (.var 2))
  (.bind (.div (.var 2) (.lit 4294967296))
  (.call 70 (.e (.lit 1) (.e (.var 3) (.e (.var 4) (.e (.lit 0) (.e (.lit 0) (.e (.lit 0) (.e (.lit 0) .nil))))))) 7
  (.fin (.e (.var 5) (.e (.var 6) (.e (.var 7) (.e (.var 8) (.e (.var 9) (.e (.var 10) (.e (.var 11) .nil))))))))))))
  (.bind (.wrap .u32 (.var 1))
  (.bind (.div (.var 1) (.lit 4294967296))
  (.call 70 (.e (.lit 0) (.e (.var 2) (.e (.var 3) (.e (.lit 0) (.e (.lit 0) (.e (.lit 0) (.e (.lit 0) .nil))))))) 7
  (.fin (.e (.var 4) (.e (.var 5) (.e (.var 6) (.e (.var 7) (.e (.var 8) (.e (.var 9) (.e (.var 10) .nil)))))))))))))
theorem v67 : vcOfI ⟨c67, []⟩ iv67 250 Try.f67 s67 = t67 := by kernel_rfl
set_option linter.unusedVariables false in
def p67 (T : Tab) (I : Nat → List Int → List Int → Prop) (M : Nat → List Int → List Int → Nat) (pre : Nat → List Int → Prop) (post : List Int → Prop) (v0 : Int) : Prop :=
 ∀ v1 : Int, v1 = (IntKind.wrap .u64 v0) →
 ((decide ((v0 : Int) < 0) = true →
  ∀ v2 : Int, v2 = (IntKind.wrap .u64 (0 - v1)) →
  ∀ v3 : Int, v3 = (IntKind.wrap .u32 v2) →
  ∀ v4 : Int, v4 = (v2 / 4294967296) →
  ∀ v5 v6 v7 v8 v9 v10 v11 : Int, [v5, v6, v7, v8, v9, v10, v11] = T.out 70 7 [1, v3, v4, 0, 0, 0, 0] →
  post [v5, v6, v7, v8, v9, v10, v11]) ∧ (decide ((v0 : Int) < 0) = false →
  ∀ v2 : Int, v2 = (IntKind.wrap .u32 v1) →
  ∀ v3 : Int, v3 = (v1 / 4294967296) →
  ∀ v4 v5 v6 v7 v8 v9 v10 : Int, [v4, v5, v6, v7, v8, v9, v10] = T.out 70 7 [0, v2, v3, 0, 0, 0, 0] →
  post [v4, v5, v6, v7, v8, v9, v10]))
theorem q67 (T : Tab) (I : Nat → List Int → List Int → Prop) (M : Nat → List Int → List Int → Nat) (pre : Nat → List Int → Prop) (post : List Int → Prop) (v0 : Int) : t67.plain T (presL pre I M) post ⟨[v0], []⟩ = p67 T I M pre post v0 := by kernel_rfl
theorem k67 (T : Tab) (I : Nat → List Int → List Int → Prop) (M : Nat → List Int → List Int → Nat) (pre : Nat → List Int → Prop) (hs : SubSig T c67.sigs) (ht : Tot pre c67.sigs) (hg : T.sig 67 = some s67) (hC : CtAll Try.prog T.fns (pres pre) c67.sigs)
    (h : ∀ (v0 : Int), ((-9223372036854775808) ≤ v0 ∧ v0 ≤ 9223372036854775807) → pre 67 [v0] → p67 T I M pre (fun ys => ys = T.fn 67 [v0]) v0) : CT Try.prog T.fns (pres pre) 67 s67 :=
  T.ctq (F := ⟨c67, []⟩) (fuel := 250) v67 Try.checked.mixed hs ht hg hC Try.func67 I M (fun _ h _ => h) fun xs hx hp => by
    match xs, hx, hp with
    | [v0], hx, hp => rw [q67]; exact h v0 hx.1 hp

/-- loop.example/g01242/spec.l01Shift -/
noncomputable def c48 : Cfg := ⟨Try.prog, [(85, s85)]⟩
def iv48 : List Iv := [⟨(-9223372036854775808), 9223372036854775807⟩]
def t48 : VC :=
 (.call 85 (.e (.var 0) (.e (.lit 0) (.e (.lit 191) .nil))) 1
 (.fin (.e (.var 1) .nil)))
theorem v48 : vcOfI ⟨c48, []⟩ iv48 250 Try.f48 s48 = t48 := by kernel_rfl
set_option linter.unusedVariables false in
def p48 (T : Tab) (I : Nat → List Int → List Int → Prop) (M : Nat → List Int → List Int → Nat) (pre : Nat → List Int → Prop) (post : List Int → Prop) (v0 : Int) : Prop :=
 ∀ v1 : Int, [v1] = T.out 85 1 [v0, 0, 191] →
 post [v1]
theorem q48 (T : Tab) (I : Nat → List Int → List Int → Prop) (M : Nat → List Int → List Int → Nat) (pre : Nat → List Int → Prop) (post : List Int → Prop) (v0 : Int) : t48.plain T (presL pre I M) post ⟨[v0], []⟩ = p48 T I M pre post v0 := by kernel_rfl
theorem k48 (T : Tab) (I : Nat → List Int → List Int → Prop) (M : Nat → List Int → List Int → Nat) (pre : Nat → List Int → Prop) (hs : SubSig T c48.sigs) (ht : Tot pre c48.sigs) (hg : T.sig 48 = some s48) (hC : CtAll Try.prog T.fns (pres pre) c48.sigs)
    (h : ∀ (v0 : Int), ((-9223372036854775808) ≤ v0 ∧ v0 ≤ 9223372036854775807) → pre 48 [v0] → p48 T I M pre (fun ys => ys = T.fn 48 [v0]) v0) : CT Try.prog T.fns (pres pre) 48 s48 :=
  T.ctq (F := ⟨c48, []⟩) (fuel := 250) v48 Try.checked.mixed hs ht hg hC Try.func48 I M (fun _ h _ => h) fun xs hx hp => by
    match xs, hx, hp with
    | [v0], hx, hp => rw [q48]; exact h v0 hx.1 hp

/-- loop.example/g01242/spec.l00In -/
noncomputable def c85 : Cfg := ⟨Try.prog, []⟩
def iv85 : List Iv := [⟨(-9223372036854775808), 9223372036854775807⟩, ⟨(-9223372036854775808), 9223372036854775807⟩, ⟨(-9223372036854775808), 9223372036854775807⟩]
def t85 : VC :=
 (.ite (.le (.var 1) (.var 0))
  (.fin (.e (.ite (.le (.var 0) (.var 2)) (.lit 1) (.lit 0)) .nil))
  (.fin (.e (.lit 0) .nil)))
theorem v85 : vcOfI ⟨c85, []⟩ iv85 250 Try.f85 s85 = t85 := by kernel_rfl
set_option linter.unusedVariables false in
def p85 (T : Tab) (I : Nat → List Int → List Int → Prop) (M : Nat → List Int → List Int → Nat) (pre : Nat → List Int → Prop) (post : List Int → Prop) (v0 v1 v2 : Int) : Prop :=
 ((decide ((v1 : Int) ≤ v0) = true →
  post [(if decide ((v0 : Int) ≤ v2) = true then 1 else 0)]) ∧ (decide ((v1 : Int) ≤ v0) = false →
  post [0]))
theorem q85 (T : Tab) (I : Nat → List Int → List Int → Prop) (M : Nat → List Int → List Int → Nat) (pre : Nat → List Int → Prop) (post : List Int → Prop) (v0 v1 v2 : Int) : t85.plain T (presL pre I M) post ⟨[v0, v1, v2], []⟩ = p85 T I M pre post v0 v1 v2 := by kernel_rfl
theorem k85 (T : Tab) (I : Nat → List Int → List Int → Prop) (M : Nat → List Int → List Int → Nat) (pre : Nat → List Int → Prop) (hs : SubSig T c85.sigs) (ht : Tot pre c85.sigs) (hg : T.sig 85 = some s85) (hC : CtAll Try.prog T.fns (pres pre) c85.sigs)
    (h : ∀ (v0 v1 v2 : Int), ((-9223372036854775808) ≤ v0 ∧ v0 ≤ 9223372036854775807) → ((-9223372036854775808) ≤ v1 ∧ v1 ≤ 9223372036854775807) → ((-9223372036854775808) ≤ v2 ∧ v2 ≤ 9223372036854775807) → pre 85 [v0, v1, v2] → p85 T I M pre (fun ys => ys = T.fn 85 [v0, v1, v2]) v0 v1 v2) : CT Try.prog T.fns (pres pre) 85 s85 :=
  T.ctq (F := ⟨c85, []⟩) (fuel := 250) v85 Try.checked.mixed hs ht hg hC Try.func85 I M (fun _ h _ => h) fun xs hx hp => by
    match xs, hx, hp with
    | [v0, v1, v2], hx, hp => rw [q85]; exact h v0 v1 v2 hx.1 hx.2.1 hx.2.2.1 hp

/-- loop.example/g01242/spec.l01Bits -/
noncomputable def c94 : Cfg := ⟨Try.prog, []⟩
def iv94 : List Iv := [⟨0, 4294967295⟩, ⟨0, 4294967295⟩, ⟨0, 4294967295⟩, ⟨0, 4294967295⟩, ⟨0, 4294967295⟩, ⟨0, 4294967295⟩]
def t94 : VC :=
 (.ite (.eq (.var 5) (.lit 0))
  (.ite (.eq (.var 4) (.lit 0))
   (.ite (.eq (.var 3) (.lit 0))
    (.ite (.eq (.var 2) (.lit 0))
     (.ite (.eq (.var 1) (.lit 0))
      (.ite (.eq (.var 0) (.lit 0))
       (.fin (.e (.lit 0) .nil))
       (.loop 0 [(.lit 0), (.var 0)] [⟨0, 32⟩, ⟨0, 4294967295⟩]
        (.ite (.lt (.lit 0) (.var 7))
         (.bind (.div (.var 7) (.lit 2))
         (.again 0 6 [⟨0, 32⟩, ⟨0, 4294967295⟩] [(.add (.var 6) (.lit 1)), (.var 8)]))
         (.bind (.add (.lit 0) (.var 6))
         (.fin (.e (.var 8) .nil))))))
      (.loop 0 [(.lit 0), (.var 1)] [⟨0, 32⟩, ⟨0, 4294967295⟩]
       (.ite (.lt (.lit 0) (.var 7))
        (.bind (.div (.var 7) (.lit 2))
        (.again 0 6 [⟨0, 32⟩, ⟨0, 4294967295⟩] [(.add (.var 6) (.lit 1)), (.var 8)]))
        (.bind (.add (.lit 32) (.var 6))
        (.fin (.e (.var 8) .nil))))))
     (.loop 0 [(.lit 0), (.var 2)] [⟨0, 32⟩, ⟨0, 4294967295⟩]
      (.ite (.lt (.lit 0) (.var 7))
       (.bind (.div (.var 7) (.lit 2))
       (.again 0 6 [⟨0, 32⟩, ⟨0, 4294967295⟩] [(.add (.var 6) (.lit 1)), (.var 8)]))
       (.bind (.add (.lit 64) (.var 6))
       (.fin (.e (.var 8) .nil))))))
    (.loop 0 [(.lit 0), (.var 3)] [⟨0, 32⟩, ⟨0, 4294967295⟩]
     (.ite (.lt (.lit 0) (.var 7))
      (.bind (.div (.var 7) (.lit 2))
      (.again 0 6 [⟨0, 32⟩, ⟨0, 4294967295⟩] [(.add (.var 6) (.lit 1)), (.var 8)]))
      (.bind (.add (.lit 96) (.var 6))
      (.fin (.e (.var 8) .nil))))))
   (.loop 0 [(.lit 0), (.var 4)] [⟨0, 32⟩, ⟨0, 4294967295⟩]
    (.ite (.lt (.lit 0) (.var 7))
     (.bind (.div (.var 7) (.lit 2))
     (.again 0 6 [⟨0, 32⟩, ⟨0, 4294967295⟩] [(.add (.var 6) (.lit 1)), (.var 8)]))
     (.bind (.add (.lit 128) (.var 6))
     (.fin (.e (.var 8) .nil))))))
  (.loop 0 [(.lit 0), (.var 5)] [⟨0, 32⟩, ⟨0, 4294967295⟩]
   (.ite (.lt (.lit 0) (.var 7))
    (.bind (.div (.var 7) (.lit 2))
    (.again 0 6 [⟨0, 32⟩, ⟨0, 4294967295⟩] [(.add (.var 6) (.lit 1)), (.var 8)]))
    (.bind (.add (.lit 160) (.var 6))
    (.fin (.e (.var 8) .nil))))))
theorem v94 : vcOfI ⟨c94, [(7, ⟨0, [4, 5], [], [21, 22, 25, 26, 23, 24, 13, 19], [⟨0, 32⟩, ⟨0, 4294967295⟩]⟩)]⟩ iv94 250 Try.f94 s94 = t94 := by kernel_rfl
set_option linter.unusedVariables false in
def p94 (T : Tab) (I : Nat → List Int → List Int → Prop) (M : Nat → List Int → List Int → Nat) (pre : Nat → List Int → Prop) (post : List Int → Prop) (v0 v1 v2 v3 v4 v5 : Int) : Prop :=
 ((decide ((v5 : Int) = 0) = true →
  ((decide ((v4 : Int) = 0) = true →
   ((decide ((v3 : Int) = 0) = true →
    ((decide ((v2 : Int) = 0) = true →
     ((decide ((v1 : Int) = 0) = true →
      ((decide ((v0 : Int) = 0) = true →
       post [0]) ∧ (decide ((v0 : Int) = 0) = false →
       ((allHas [⟨0, 32⟩, ⟨0, 4294967295⟩] [0, v0] ∧ I 0 [v0, v1, v2, v3, v4, v5] [0, v0]) ∧ ∀ v6 v7 : Int, allHas [⟨0, 32⟩, ⟨0, 4294967295⟩] [v6, v7] → I 0 [v0, v1, v2, v3, v4, v5] [v6, v7] →
        ((decide ((0 : Int) < v7) = true →
         ∀ v8 : Int, v8 = (v7 / 2) →
         (allHas [⟨0, 32⟩, ⟨0, 4294967295⟩] [(v6 + 1), v8] ∧ I 0 [v0, v1, v2, v3, v4, v5] [(v6 + 1), v8] ∧ M 0 [v0, v1, v2, v3, v4, v5] [(v6 + 1), v8] < M 0 [v0, v1, v2, v3, v4, v5] [v6, v7])) ∧ (decide ((0 : Int) < v7) = false →
         ∀ v8 : Int, v8 = (0 + v6) →
         post [v8])))))) ∧ (decide ((v1 : Int) = 0) = false →
      ((allHas [⟨0, 32⟩, ⟨0, 4294967295⟩] [0, v1] ∧ I 0 [v0, v1, v2, v3, v4, v5] [0, v1]) ∧ ∀ v6 v7 : Int, allHas [⟨0, 32⟩, ⟨0, 4294967295⟩] [v6, v7] → I 0 [v0, v1, v2, v3, v4, v5] [v6, v7] →
       ((decide ((0 : Int) < v7) = true →
        ∀ v8 : Int, v8 = (v7 / 2) →
        (allHas [⟨0, 32⟩, ⟨0, 4294967295⟩] [(v6 + 1), v8] ∧ I 0 [v0, v1, v2, v3, v4, v5] [(v6 + 1), v8] ∧ M 0 [v0, v1, v2, v3, v4, v5] [(v6 + 1), v8] < M 0 [v0, v1, v2, v3, v4, v5] [v6, v7])) ∧ (decide ((0 : Int) < v7) = false →
        ∀ v8 : Int, v8 = (32 + v6) →
        post [v8])))))) ∧ (decide ((v2 : Int) = 0) = false →
     ((allHas [⟨0, 32⟩, ⟨0, 4294967295⟩] [0, v2] ∧ I 0 [v0, v1, v2, v3, v4, v5] [0, v2]) ∧ ∀ v6 v7 : Int, allHas [⟨0, 32⟩, ⟨0, 4294967295⟩] [v6, v7] → I 0 [v0, v1, v2, v3, v4, v5] [v6, v7] →
      ((decide ((0 : Int) < v7) = true →
       ∀ v8 : Int, v8 = (v7 / 2) →
       (allHas [⟨0, 32⟩, ⟨0, 4294967295⟩] [(v6 + 1), v8] ∧ I 0 [v0, v1, v2, v3, v4, v5] [(v6 + 1), v8] ∧ M 0 [v0, v1, v2, v3, v4, v5] [(v6 + 1), v8] < M 0 [v0, v1, v2, v3, v4, v5] [v6, v7])) ∧ (decide ((0 : Int) < v7) = false →
       ∀ v8 : Int, v8 = (64 + v6) →
       post [v8])))))) ∧ (decide ((v3 : Int) = 0) = false →
    ((allHas [⟨0, 32⟩, ⟨0, 4294967295⟩] [0, v3] ∧ I 0 [v0, v1, v2, v3, v4, v5] [0, v3]) ∧ ∀ v6 v7 : Int, allHas [⟨0, 32⟩, ⟨0, 4294967295⟩] [v6, v7] → I 0 [v0, v1, v2, v3, v4, v5] [v6, v7] →
     ((decide ((0 : Int) < v7) = true →
      ∀ v8 : Int, v8 = (v7 / 2) →
      (allHas [⟨0, 32⟩, ⟨0, 4294967295⟩] [(v6 + 1), v8] ∧ I 0 [v0, v1, v2, v3, v4, v5] [(v6 + 1), v8] ∧ M 0 [v0, v1, v2, v3, v4, v5] [(v6 + 1), v8] < M 0 [v0, v1, v2, v3, v4, v5] [v6, v7])) ∧ (decide ((0 : Int) < v7) = false →
      ∀ v8 : Int, v8 = (96 + v6) →
      post [v8])))))) ∧ (decide ((v4 : Int) = 0) = false →
   ((allHas [⟨0, 32⟩, ⟨0, 4294967295⟩] [0, v4] ∧ I 0 [v0, v1, v2, v3, v4, v5] [0, v4]) ∧ ∀ v6 v7 : Int, allHas [⟨0, 32⟩, ⟨0, 4294967295⟩] [v6, v7] → I 0 [v0, v1, v2, v3, v4, v5] [v6, v7] →
    ((decide ((0 : Int) < v7) = true →
     ∀ v8 : Int, v8 = (v7 / 2) →
     (allHas [⟨0, 32⟩, ⟨0, 4294967295⟩] [(v6 + 1), v8] ∧ I 0 [v0, v1, v2, v3, v4, v5] [(v6 + 1), v8] ∧ M 0 [v0, v1, v2, v3, v4, v5] [(v6 + 1), v8] < M 0 [v0, v1, v2, v3, v4, v5] [v6, v7])) ∧ (decide ((0 : Int) < v7) = false →
     ∀ v8 : Int, v8 = (128 + v6) →
     post [v8])))))) ∧ (decide ((v5 : Int) = 0) = false →
  ((allHas [⟨0, 32⟩, ⟨0, 4294967295⟩] [0, v5] ∧ I 0 [v0, v1, v2, v3, v4, v5] [0, v5]) ∧ ∀ v6 v7 : Int, allHas [⟨0, 32⟩, ⟨0, 4294967295⟩] [v6, v7] → I 0 [v0, v1, v2, v3, v4, v5] [v6, v7] →
   ((decide ((0 : Int) < v7) = true →
    ∀ v8 : Int, v8 = (v7 / 2) →
    (allHas [⟨0, 32⟩, ⟨0, 4294967295⟩] [(v6 + 1), v8] ∧ I 0 [v0, v1, v2, v3, v4, v5] [(v6 + 1), v8] ∧ M 0 [v0, v1, v2, v3, v4, v5] [(v6 + 1), v8] < M 0 [v0, v1, v2, v3, v4, v5] [v6, v7])) ∧ (decide ((0 : Int) < v7) = false →
    ∀ v8 : Int, v8 = (160 + v6) →
    post [v8])))))
theorem q94 (T : Tab) (I : Nat → List Int → List Int → Prop) (M : Nat → List Int → List Int → Nat) (pre : Nat → List Int → Prop) (post : List Int → Prop) (v0 v1 v2 v3 v4 v5 : Int) : t94.plain T (presL pre I M) post ⟨[v0, v1, v2, v3, v4, v5], []⟩ = p94 T I M pre post v0 v1 v2 v3 v4 v5 := by kernel_rfl
theorem k94 (T : Tab) (I : Nat → List Int → List Int → Prop) (M : Nat → List Int → List Int → Nat) (pre : Nat → List Int → Prop) (hs : SubSig T c94.sigs) (ht : Tot pre c94.sigs) (hg : T.sig 94 = some s94) (hC : CtAll Try.prog T.fns (pres pre) c94.sigs)
    (h : ∀ (v0 v1 v2 v3 v4 v5 : Int), (0 ≤ v0 ∧ v0 ≤ 4294967295) → (0 ≤ v1 ∧ v1 ≤ 4294967295) → (0 ≤ v2 ∧ v2 ≤ 4294967295) → (0 ≤ v3 ∧ v3 ≤ 4294967295) → (0 ≤ v4 ∧ v4 ≤ 4294967295) → (0 ≤ v5 ∧ v5 ≤ 4294967295) → pre 94 [v0, v1, v2, v3, v4, v5] → p94 T I M pre (fun ys => ys = T.fn 94 [v0, v1, v2, v3, v4, v5]) v0 v1 v2 v3 v4 v5) : CT Try.prog T.fns (pres pre) 94 s94 :=
  T.ctq (F := ⟨c94, [(7, ⟨0, [4, 5], [], [21, 22, 25, 26, 23, 24, 13, 19], [⟨0, 32⟩, ⟨0, 4294967295⟩]⟩)]⟩) (fuel := 250) v94 Try.checked.mixed hs ht hg hC Try.func94 I M (fun _ h _ => h) fun xs hx hp => by
    match xs, hx, hp with
    | [v0, v1, v2, v3, v4, v5], hx, hp => rw [q94]; exact h v0 v1 v2 v3 v4 v5 hx.1 hx.2.1 hx.2.2.1 hx.2.2.2.1 hx.2.2.2.2.1 hx.2.2.2.2.2.1 hp

end Go.Proofs.Ytmlmdicdblgcfaa.Sx

namespace Go.Proofs.Ytmlmdicdblgcfaa.Sx
open Go Go.RowKit
/-- loop.example/g01242/spec.l01UpMag -/
noncomputable def c87 : Cfg := ⟨Try.prog, [(94, s94), (68, s68)]⟩
def iv87 : List Iv := [⟨0, 4294967295⟩, ⟨0, 4294967295⟩, ⟨0, 4294967295⟩, ⟨0, 4294967295⟩, ⟨0, 4294967295⟩, ⟨0, 4294967295⟩, ⟨0, 191⟩]
def t87 : VC :=
 (.call 94 (.e (.var 0) (.e (.var 1) (.e (.var 2) (.e (.var 3) (.e (.var 4) (.e (.var 5) .nil)))))) 1
 (.ite (.lt (.lit 192) (.add (.var 7) (.var 6)))
  (.call 68 (.e (.var 0) (.e (.var 1) (.e (.var 2) (.e (.var 3) (.e (.var 4) (.e (.var 5) .nil)))))) 1
  (.ite (.not (.eq (.var 8) (.lit 1)))
   (.fin (.e (.lit 0) (.e (.lit 0) (.e (.lit 0) (.e (.lit 0) (.e (.lit 0) (.e (.lit 0) (.e (.lit 0) .nil))))))))
   (.loop 0 [(.lit 0), (.lit 0), (.lit 0), (.lit 0), (.lit 0), (.lit 0), (.lit 0)] [⟨0, 6⟩, ⟨0, 4294967295⟩, ⟨0, 4294967295⟩, ⟨0, 4294967295⟩, ⟨0, 4294967295⟩, ⟨0, 4294967295⟩, ⟨0, 4294967295⟩]
    (.ite (.lt (.var 9) (.lit 6))
     (.bind (.add (.var 9) (.div (.var 6) (.lit 32)))
     (.ite (.le (.lit 6) (.var 16))
      (.fin (.e (.var 10) (.e (.var 11) (.e (.var 12) (.e (.var 13) (.e (.var 14) (.e (.var 15) (.e (.lit 1) .nil))))))))
      (.bind (.ite (.eq (.var 9) (.lit 0)) (.var 0) (.ite (.eq (.var 9) (.lit 1)) (.var 1) (.ite (.eq (.var 9) (.lit 2)) (.var 2) (.ite (.eq (.var 9) (.lit 3)) (.var 3) (.ite (.eq (.var 9) (.lit 4)) (.var 4) (.var 5))))))
      (.bind (.mul (.var 17) (.pow2 (.mod (.var 6) (.lit 32))))
      (.bind (.ite (.eq (.var 16) (.lit 0)) (.var 10) (.ite (.eq (.var 16) (.lit 1)) (.var 11) (.ite (.eq (.var 16) (.lit 2)) (.var 12) (.ite (.eq (.var 16) (.lit 3)) (.var 13) (.ite (.eq (.var 16) (.lit 4)) (.var 14) (.var 15))))))
      (.bind (.ite (.eq (.var 16) (.lit 0)) (.bits .or .u32 (.var 19) (.wrap .u32 (.var 18))) (.var 10))
      (.bind (.ite (.eq (.var 16) (.lit 1)) (.bits .or .u32 (.var 19) (.wrap .u32 (.var 18))) (.var 11))
      (.bind (.ite (.eq (.var 16) (.lit 2)) (.bits .or .u32 (.var 19) (.wrap .u32 (.var 18))) (.var 12))
      (.bind (.ite (.eq (.var 16) (.lit 3)) (.bits .or .u32 (.var 19) (.wrap .u32 (.var 18))) (.var 13))
      (.bind (.ite (.eq (.var 16) (.lit 4)) (.bits .or .u32 (.var 19) (.wrap .u32 (.var 18))) (.var 14))
      (.bind (.ite (.eq (.var 16) (.lit 5)) (.bits .or .u32 (.var 19) (.wrap .u32 (.var 18))) (.var 15))
      (.ite (.lt (.add (.var 16) (.lit 1)) (.lit 6))
       (.need [(.b (.lt (.add (.var 16) (.lit 1)) (.lit 6)))]
       (.bind (.ite (.eq (.add (.var 16) (.lit 1)) (.lit 0)) (.var 20) (.ite (.eq (.add (.var 16) (.lit 1)) (.lit 1)) (.var 21) (.ite (.eq (.add (.var 16) (.lit 1)) (.lit 2)) (.var 22) (.ite (.eq (.add (.var 16) (.lit 1)) (.lit 3)) (.var 23) (.ite (.eq (.add (.var 16) (.lit 1)) (.lit 4)) (.var 24) (.var 25))))))
       (.need [(.b (.lt (.add (.var 16) (.lit 1)) (.lit 6)))]
       (.bind (.ite (.eq (.add (.var 16) (.lit 1)) (.lit 0)) (.bits .or .u32 (.var 26) (.div (.var 18) (.lit 4294967296))) (.var 20))
       (.bind (.ite (.eq (.add (.var 16) (.lit 1)) (.lit 1)) (.bits .or .u32 (.var 26) (.div (.var 18) (.lit 4294967296))) (.var 21))
       (.bind (.ite (.eq (.add (.var 16) (.lit 1)) (.lit 2)) (.bits .or .u32 (.var 26) (.div (.var 18) (.lit 4294967296))) (.var 22))
       (.bind (.ite (.eq (.add (.var 16) (.lit 1)) (.lit 3)) (.bits .or .u32 (.var 26) (.div (.var 18) (.lit 4294967296))) (.var 23))
       (.bind (.ite (.eq (.add (.var 16) (.lit 1)) (.lit 4)) (.bits .or .u32 (.var 26) (.div (.var 18) (.lit 4294967296))) (.var 24))
       (.bind (.ite (.eq (.add (.var 16) (.lit 1)) (.lit 5)) (.bits .or .u32 (.var 26) (.div (.var 18) (.lit 4294967296))) (.var 25))
       (.again 0 9 [⟨0, 6⟩, ⟨0, 4294967295⟩, ⟨0, 4294967295⟩, ⟨0, 4294967295⟩, ⟨0, 4294967295⟩, ⟨0, 4294967295⟩, ⟨0, 4294967295⟩] [(.add (.var 9) (.lit 1)), (.var 27), (.var 28), (.var 29), (.var 30), (.var 31), (.var 32)]))))))))))
       (.again 0 9 [⟨0, 6⟩, ⟨0, 4294967295⟩, ⟨0, 4294967295⟩, ⟨0, 4294967295⟩, ⟨0, 4294967295⟩, ⟨0, 4294967295⟩, ⟨0, 4294967295⟩] [(.add (.var 9) (.lit 1)), (.var 20), (.var 21), (.var 22), (.var 23), (.var 24), (.var 25)])))))))))))))
     (.fin (.e (.var 10) (.e (.var 11) (.e (.var 12) (.e (.var 13) (.e (.var 14) (.e (.var 15) (.e (.lit 1) .nil))))))))))))
  (.loop 0 [(.lit 0), (.lit 0), (.lit 0), (.lit 0), (.lit 0), (.lit 0), (.lit 0)] [⟨0, 6⟩, ⟨0, 4294967295⟩, ⟨0, 4294967295⟩, ⟨0, 4294967295⟩, ⟨0, 4294967295⟩, ⟨0, 4294967295⟩, ⟨0, 4294967295⟩]
   (.ite (.lt (.var 8) (.lit 6))
    (.bind (.add (.var 8) (.div (.var 6) (.lit 32)))
    (.ite (.le (.lit 6) (.var 15))
     (.fin (.e (.var 9) (.e (.var 10) (.e (.var 11) (.e (.var 12) (.e (.var 13) (.e (.var 14) (.e (.lit 1) .nil))))))))
     (.bind (.ite (.eq (.var 8) (.lit 0)) (.var 0) (.ite (.eq (.var 8) (.lit 1)) (.var 1) (.ite (.eq (.var 8) (.lit 2)) (.var 2) (.ite (.eq (.var 8) (.lit 3)) (.var 3) (.ite (.eq (.var 8) (.lit 4)) (.var 4) (.var 5))))))
     (.bind (.mul (.var 16) (.pow2 (.mod (.var 6) (.lit 32))))
     (.bind (.ite (.eq (.var 15) (.lit 0)) (.var 9) (.ite (.eq (.var 15) (.lit 1)) (.var 10) (.ite (.eq (.var 15) (.lit 2)) (.var 11) (.ite (.eq (.var 15) (.lit 3)) (.var 12) (.ite (.eq (.var 15) (.lit 4)) (.var 13) (.var 14))))))
     (.bind (.ite (.eq (.var 15) (.lit 0)) (.bits .or .u32 (.var 18) (.wrap .u32 (.var 17))) (.var 9))
     (.bind (.ite (.eq (.var 15) (.lit 1)) (.bits .or .u32 (.var 18) (.wrap .u32 (.var 17))) (.var 10))
     (.bind (.ite (.eq (.var 15) (.lit 2)) (.bits .or .u32 (.var 18) (.wrap .u32 (.var 17))) (.var 11))
     (.bind (.ite (.eq (.var 15) (.lit 3)) (.bits .or .u32 (.var 18) (.wrap .u32 (.var 17))) (.var 12))
     (.bind (.ite (.eq (.var 15) (.lit 4)) (.bits .or .u32 (.var 18) (.wrap .u32 (.var 17))) (.var 13))
     (.bind (.ite (.eq (.var 15) (.lit 5)) (.bits .or .u32 (.var 18) (.wrap .u32 (.var 17))) (.var 14))
     (.ite (.lt (.add (.var 15) (.lit 1)) (.lit 6))
      (.need [(.b (.lt (.add (.var 15) (.lit 1)) (.lit 6)))]
      (.bind (.ite (.eq (.add (.var 15) (.lit 1)) (.lit 0)) (.var 19) (.ite (.eq (.add (.var 15) (.lit 1)) (.lit 1)) (.var 20) (.ite (.eq (.add (.var 15) (.lit 1)) (.lit 2)) (.var 21) (.ite (.eq (.add (.var 15) (.lit 1)) (.lit 3)) (.var 22) (.ite (.eq (.add (.var 15) (.lit 1)) (.lit 4)) (.var 23) (.var 24))))))
      (.need [(.b (.lt (.add (.var 15) (.lit 1)) (.lit 6)))]
      (.bind (.ite (.eq (.add (.var 15) (.lit 1)) (.lit 0)) (.bits .or .u32 (.var 25) (.div (.var 17) (.lit 4294967296))) (.var 19))
      (.bind (.ite (.eq (.add (.var 15) (.lit 1)) (.lit 1)) (.bits .or .u32 (.var 25) (.div (.var 17) (.lit 4294967296))) (.var 20))
      (.bind (.ite (.eq (.add (.var 15) (.lit 1)) (.lit 2)) (.bits .or .u32 (.var 25) (.div (.var 17) (.lit 4294967296))) (.var 21))
      (.bind (.ite (.eq (.add (.var 15) (.lit 1)) (.lit 3)) (.bits .or .u32 (.var 25) (.div (.var 17) (.lit 4294967296))) (.var 22))
      (.bind (.ite (.eq (.add (.var 15) (.lit 1)) (.lit 4)) (.bits .or .u32 (.var 25) (.div (.var 17) (.lit 4294967296))) (.var 23))
      (.bind (.ite (.eq (.add (.var 15) (.lit 1)) (.lit 5)) (.bits .or .u32 (.var 25) (.div (.var 17) (.lit 4294967296))) (.var 24))
      (.again 0 8 [⟨0, 6⟩, ⟨0, 4294967295⟩, ⟨0, 4294967295⟩, ⟨0, 4294967295⟩, ⟨0, 4294967295⟩, ⟨0, 4294967295⟩, ⟨0, 4294967295⟩] [(.add (.var 8) (.lit 1)), (.var 26), (.var 27), (.var 28), (.var 29), (.var 30), (.var 31)]))))))))))
      (.again 0 8 [⟨0, 6⟩, ⟨0, 4294967295⟩, ⟨0, 4294967295⟩, ⟨0, 4294967295⟩, ⟨0, 4294967295⟩, ⟨0, 4294967295⟩, ⟨0, 4294967295⟩] [(.add (.var 8) (.lit 1)), (.var 19), (.var 20), (.var 21), (.var 22), (.var 23), (.var 24)])))))))))))))
    (.fin (.e (.var 9) (.e (.var 10) (.e (.var 11) (.e (.var 12) (.e (.var 13) (.e (.var 14) (.e (.lit 1) .nil))))))))))))
theorem v87 : vcOfI ⟨c87, [(5, ⟨0, [7], [2], [22, 23, 26, 27, 28, 29, 8, 30, 31, 32, 33, 34, 35, 36, 37, 38, 39, 40, 41, 9, 42, 43, 44, 45, 46, 47, 48, 49, 50, 51, 52, 53, 54, 55, 56, 57, 58, 59, 60, 24, 25], [⟨0, 6⟩, ⟨0, 4294967295⟩, ⟨0, 4294967295⟩, ⟨0, 4294967295⟩, ⟨0, 4294967295⟩, ⟨0, 4294967295⟩, ⟨0, 4294967295⟩]⟩)]⟩ iv87 250 Try.f87 s87 = t87 := by kernel_rfl
set_option linter.unusedVariables false in
def p87 (T : Tab) (I : Nat → List Int → List Int → Prop) (M : Nat → List Int → List Int → Nat) (pre : Nat → List Int → Prop) (post : List Int → Prop) (v0 v1 v2 v3 v4 v5 v6 : Int) : Prop :=
 ∀ v7 : Int, [v7] = T.out 94 1 [v0, v1, v2, v3, v4, v5] →
 ((decide ((192 : Int) < (v7 + v6)) = true →
  ∀ v8 : Int, [v8] = T.out 68 1 [v0, v1, v2, v3, v4, v5] →
  (((!decide ((v8 : Int) = 1)) = true →
   post [0, 0, 0, 0, 0, 0, 0]) ∧ ((!decide ((v8 : Int) = 1)) = false →
   ((allHas [⟨0, 6⟩, ⟨0, 4294967295⟩, ⟨0, 4294967295⟩, ⟨0, 4294967295⟩, ⟨0, 4294967295⟩, ⟨0, 4294967295⟩, ⟨0, 4294967295⟩] [0, 0, 0, 0, 0, 0, 0] ∧ I 0 [v0, v1, v2, v3, v4, v5, v6, v7, v8] [0, 0, 0, 0, 0, 0, 0]) ∧ ∀ v9 v10 v11 v12 v13 v14 v15 : Int, allHas [⟨0, 6⟩, ⟨0, 4294967295⟩, ⟨0, 4294967295⟩, ⟨0, 4294967295⟩, ⟨0, 4294967295⟩, ⟨0, 4294967295⟩, ⟨0, 4294967295⟩] [v9, v10, v11, v12, v13, v14, v15] → I 0 [v0, v1, v2, v3, v4, v5, v6, v7, v8] [v9, v10, v11, v12, v13, v14, v15] →
    ((decide ((v9 : Int) < 6) = true →
     ∀ v16 : Int, v16 = (v9 + (v6 / 32)) →
     ((decide ((6 : Int) ≤ v16) = true →
      post [v10, v11, v12, v13, v14, v15, 1]) ∧ (decide ((6 : Int) ≤ v16) = false →
      ∀ v17 : Int, v17 = (if decide ((v9 : Int) = 0) = true then v0 else (if decide ((v9 : Int) = 1) = true then v1 else (if decide ((v9 : Int) = 2) = true then v2 else (if decide ((v9 : Int) = 3) = true then v3 else (if decide ((v9 : Int) = 4) = true then v4 else v5))))) →
      ∀ v18 : Int, v18 = (v17 * (2 ^ ((v6 % 32) : Int).toNat)) →
      ∀ v19 : Int, v19 = (if decide ((v16 : Int) = 0) = true then v10 else (if decide ((v16 : Int) = 1) = true then v11 else (if decide ((v16 : Int) = 2) = true then v12 else (if decide ((v16 : Int) = 3) = true then v13 else (if decide ((v16 : Int) = 4) = true then v14 else v15))))) →
      ∀ v20 : Int, v20 = (if decide ((v16 : Int) = 0) = true then (bitsInt .or .u32 v19 (IntKind.wrap .u32 v18)) else v10) →
      ∀ v21 : Int, v21 = (if decide ((v16 : Int) = 1) = true then (bitsInt .or .u32 v19 (IntKind.wrap .u32 v18)) else v11) →
      ∀ v22 : Int, v22 = (if decide ((v16 : Int) = 2) = true then (bitsInt .or .u32 v19 (IntKind.wrap .u32 v18)) else v12) →
      ∀ v23 : Int, v23 = (if decide ((v16 : Int) = 3) = true then (bitsInt .or .u32 v19 (IntKind.wrap .u32 v18)) else v13) →
      ∀ v24 : Int, v24 = (if decide ((v16 : Int) = 4) = true then (bitsInt .or .u32 v19 (IntKind.wrap .u32 v18)) else v14) →
      ∀ v25 : Int, v25 = (if decide ((v16 : Int) = 5) = true then (bitsInt .or .u32 v19 (IntKind.wrap .u32 v18)) else v15) →
      ((decide (((v16 + 1) : Int) < 6) = true →
       ((decide (((v16 + 1) : Int) < 6) = true) ∧ ((decide (((v16 + 1) : Int) < 6) = true) →
       ∀ v26 : Int, v26 = (if decide (((v16 + 1) : Int) = 0) = true then v20 else (if decide (((v16 + 1) : Int) = 1) = true then v21 else (if decide (((v16 + 1) : Int) = 2) = true then v22 else (if decide (((v16 + 1) : Int) = 3) = true then v23 else (if decide (((v16 + 1) : Int) = 4) = true then v24 else v25))))) →
       ((decide (((v16 + 1) : Int) < 6) = true) ∧ ((decide (((v16 + 1) : Int) < 6) = true) →
       ∀ v27 : Int, v27 = (if decide (((v16 + 1) : Int) = 0) = true then (bitsInt .or .u32 v26 (v18 / 4294967296)) else v20) →
       ∀ v28 : Int, v28 = (if decide (((v16 + 1) : Int) = 1) = true then (bitsInt .or .u32 v26 (v18 / 4294967296)) else v21) →
       ∀ v29 : Int, v29 = (if decide (((v16 + 1) : Int) = 2) = true then (bitsInt .or .u32 v26 (v18 / 4294967296)) else v22) →
       ∀ v30 : Int, v30 = (if decide (((v16 + 1) : Int) = 3) = true then (bitsInt .or .u32 v26 (v18 / 4294967296)) else v23) →
       ∀ v31 : Int, v31 = (if decide (((v16 + 1) : Int) = 4) = true then (bitsInt .or .u32 v26 (v18 / 4294967296)) else v24) →
       ∀ v32 : Int, v32 = (if decide (((v16 + 1) : Int) = 5) = true then (bitsInt .or .u32 v26 (v18 / 4294967296)) else v25) →
       (allHas [⟨0, 6⟩, ⟨0, 4294967295⟩, ⟨0, 4294967295⟩, ⟨0, 4294967295⟩, ⟨0, 4294967295⟩, ⟨0, 4294967295⟩, ⟨0, 4294967295⟩] [(v9 + 1), v27, v28, v29, v30, v31, v32] ∧ I 0 [v0, v1, v2, v3, v4, v5, v6, v7, v8] [(v9 + 1), v27, v28, v29, v30, v31, v32] ∧ M 0 [v0, v1, v2, v3, v4, v5, v6, v7, v8] [(v9 + 1), v27, v28, v29, v30, v31, v32] < M 0 [v0, v1, v2, v3, v4, v5, v6, v7, v8] [v9, v10, v11, v12, v13, v14, v15])))))) ∧ (decide (((v16 + 1) : Int) < 6) = false →
       (allHas [⟨0, 6⟩, ⟨0, 4294967295⟩, ⟨0, 4294967295⟩, ⟨0, 4294967295⟩, ⟨0, 4294967295⟩, ⟨0, 4294967295⟩, ⟨0, 4294967295⟩] [(v9 + 1), v20, v21, v22, v23, v24, v25] ∧ I 0 [v0, v1, v2, v3, v4, v5, v6, v7, v8] [(v9 + 1), v20, v21, v22, v23, v24, v25] ∧ M 0 [v0, v1, v2, v3, v4, v5, v6, v7, v8] [(v9 + 1), v20, v21, v22, v23, v24, v25] < M 0 [v0, v1, v2, v3, v4, v5, v6, v7, v8] [v9, v10, v11, v12, v13, v14, v15])))))) ∧ (decide ((v9 : Int) < 6) = false →
     post [v10, v11, v12, v13, v14, v15, 1])))))) ∧ (decide ((192 : Int) < (v7 + v6)) = false →
  ((allHas [⟨0, 6⟩, ⟨0, 4294967295⟩, ⟨0, 4294967295⟩, ⟨0, 4294967295⟩, ⟨0, 4294967295⟩, ⟨0, 4294967295⟩, ⟨0, 4294967295⟩] [0, 0, 0, 0, 0, 0, 0] ∧ I 0 [v0, v1, v2, v3, v4, v5, v6, v7] [0, 0, 0, 0, 0, 0, 0]) ∧ ∀ v8 v9 v10 v11 v12 v13 v14 : Int, allHas [⟨0, 6⟩, ⟨0, 4294967295⟩, ⟨0, 4294967295⟩, ⟨0, 4294967295⟩, ⟨0, 4294967295⟩, ⟨0, 4294967295⟩, ⟨0, 4294967295⟩] [v8, v9, v10, v11, v12, v13, v14] → I 0 [v0, v1, v2, v3, v4, v5, v6, v7] [v8, v9, v10, v11, v12, v13, v14] →
   ((decide ((v8 : Int) < 6) = true →
    ∀ v15 : Int, v15 = (v8 + (v6 / 32)) →
    ((decide ((6 : Int) ≤ v15) = true →
     post [v9, v10, v11, v12, v13, v14, 1]) ∧ (decide ((6 : Int) ≤ v15) = false →
     ∀ v16 : Int, v16 = (if decide ((v8 : Int) = 0) = true then v0 else (if decide ((v8 : Int) = 1) = true then v1 else (if decide ((v8 : Int) = 2) = true then v2 else (if decide ((v8 : Int) = 3) = true then v3 else (if decide ((v8 : Int) = 4) = true then v4 else v5))))) →
     ∀ v17 : Int, v17 = (v16 * (2 ^ ((v6 % 32) : Int).toNat)) →
     ∀ v18 : Int, v18 = (if decide ((v15 : Int) = 0) = true then v9 else (if decide ((v15 : Int) = 1) = true then v10 else (if decide ((v15 : Int) = 2) = true then v11 else (if decide ((v15 : Int) = 3) = true then v12 else (if decide ((v15 : Int) = 4) = true then v13 else v14))))) →
     ∀ v19 : Int, v19 = (if decide ((v15 : Int) = 0) = true then (bitsInt .or .u32 v18 (IntKind.wrap .u32 v17)) else v9) →
     ∀ v20 : Int, v20 = (if decide ((v15 : Int) = 1) = true then (bitsInt .or .u32 v18 (IntKind.wrap .u32 v17)) else v10) →
     ∀ v21 : Int, v21 = (if decide ((v15 : Int) = 2) = true then (bitsInt .or .u32 v18 (IntKind.wrap .u32 v17)) else v11) →
     ∀ v22 : Int, v22 = (if decide ((v15 : Int) = 3) = true then (bitsInt .or .u32 v18 (IntKind.wrap .u32 v17)) else v12) →
     ∀ v23 : Int, v23 = (if decide ((v15 : Int) = 4) = true then (bitsInt .or .u32 v18 (IntKind.wrap .u32 v17)) else v13) →
     ∀ v24 : Int, v24 = (if decide ((v15 : Int) = 5) = true then (bitsInt .or .u32 v18 (IntKind.wrap .u32 v17)) else v14) →
     ((decide (((v15 + 1) : Int) < 6) = true →
      ((decide (((v15 + 1) : Int) < 6) = true) ∧ ((decide (((v15 + 1) : Int) < 6) = true) →
      ∀ v25 : Int, v25 = (if decide (((v15 + 1) : Int) = 0) = true then v19 else (if decide (((v15 + 1) : Int) = 1) = true then v20 else (if decide (((v15 + 1) : Int) = 2) = true then v21 else (if decide (((v15 + 1) : Int) = 3) = true then v22 else (if decide (((v15 + 1) : Int) = 4) = true then v23 else v24))))) →
      ((decide (((v15 + 1) : Int) < 6) = true) ∧ ((decide (((v15 + 1) : Int) < 6) = true) →
      ∀ v26 : Int, v26 = (if decide (((v15 + 1) : Int) = 0) = true then (bitsInt .or .u32 v25 (v17 / 4294967296)) else v19) →
      ∀ v27 : Int, v27 = (if decide (((v15 + 1) : Int) = 1) = true then (bitsInt .or .u32 v25 (v17 / 4294967296)) else v20) →
      ∀ v28 : Int, v28 = (if decide (((v15 + 1) : Int) = 2) = true then (bitsInt .or .u32 v25 (v17 / 4294967296)) else v21) →
      ∀ v29 : Int, v29 = (if decide (((v15 + 1) : Int) = 3) = true then (bitsInt .or .u32 v25 (v17 / 4294967296)) else v22) →
      ∀ v30 : Int, v30 = (if decide (((v15 + 1) : Int) = 4) = true then (bitsInt .or .u32 v25 (v17 / 4294967296)) else v23) →
      ∀ v31 : Int, v31 = (if decide (((v15 + 1) : Int) = 5) = true then (bitsInt .or .u32 v25 (v17 / 4294967296)) else v24) →
      (allHas [⟨0, 6⟩, ⟨0, 4294967295⟩, ⟨0, 4294967295⟩, ⟨0, 4294967295⟩, ⟨0, 4294967295⟩, ⟨0, 4294967295⟩, ⟨0, 4294967295⟩] [(v8 + 1), v26, v27, v28, v29, v30, v31] ∧ I 0 [v0, v1, v2, v3, v4, v5, v6, v7] [(v8 + 1), v26, v27, v28, v29, v30, v31] ∧ M 0 [v0, v1, v2, v3, v4, v5, v6, v7] [(v8 + 1), v26, v27, v28, v29, v30, v31] < M 0 [v0, v1, v2, v3, v4, v5, v6, v7] [v8, v9, v10, v11, v12, v13, v14])))))) ∧ (decide (((v15 + 1) : Int) < 6) = false →
      (allHas [⟨0, 6⟩, ⟨0, 4294967295⟩, ⟨0, 4294967295⟩, ⟨0, 4294967295⟩, ⟨0, 4294967295⟩, ⟨0, 4294967295⟩, ⟨0, 4294967295⟩] [(v8 + 1), v19, v20, v21, v22, v23, v24] ∧ I 0 [v0, v1, v2, v3, v4, v5, v6, v7] [(v8 + 1), v19, v20, v21, v22, v23, v24] ∧ M 0 [v0, v1, v2, v3, v4, v5, v6, v7] [(v8 + 1), v19, v20, v21, v22, v23, v24] < M 0 [v0, v1, v2, v3, v4, v5, v6, v7] [v8, v9, v10, v11, v12, v13, v14])))))) ∧ (decide ((v8 : Int) < 6) = false →
    post [v9, v10, v11, v12, v13, v14, 1])))))
theorem q87 (T : Tab) (I : Nat → List Int → List Int → Prop) (M : Nat → List Int → List Int → Nat) (pre : Nat → List Int → Prop) (post : List Int → Prop) (v0 v1 v2 v3 v4 v5 v6 : Int) : t87.plain T (presL pre I M) post ⟨[v0, v1, v2, v3, v4, v5, v6], []⟩ = p87 T I M pre post v0 v1 v2 v3 v4 v5 v6 := by kernel_rfl
theorem k87 (T : Tab) (I : Nat → List Int → List Int → Prop) (M : Nat → List Int → List Int → Nat) (pre : Nat → List Int → Prop) (hs : SubSig T c87.sigs) (ht : Tot pre c87.sigs) (hg : T.sig 87 = some s87) (hC : CtAll Try.prog T.fns (pres pre) c87.sigs) (hi : ∀ xs, pre 87 xs → allHas iv87 xs)
    (h : ∀ (v0 v1 v2 v3 v4 v5 v6 : Int), (0 ≤ v0 ∧ v0 ≤ 4294967295) → (0 ≤ v1 ∧ v1 ≤ 4294967295) → (0 ≤ v2 ∧ v2 ≤ 4294967295) → (0 ≤ v3 ∧ v3 ≤ 4294967295) → (0 ≤ v4 ∧ v4 ≤ 4294967295) → (0 ≤ v5 ∧ v5 ≤ 4294967295) → (0 ≤ v6 ∧ v6 ≤ 191) → pre 87 [v0, v1, v2, v3, v4, v5, v6] → p87 T I M pre (fun ys => ys = T.fn 87 [v0, v1, v2, v3, v4, v5, v6]) v0 v1 v2 v3 v4 v5 v6) : CT Try.prog T.fns (pres pre) 87 s87 :=
  T.ctq (F := ⟨c87, [(5, ⟨0, [7], [2], [22, 23, 26, 27, 28, 29, 8, 30, 31, 32, 33, 34, 35, 36, 37, 38, 39, 40, 41, 9, 42, 43, 44, 45, 46, 47, 48, 49, 50, 51, 52, 53, 54, 55, 56, 57, 58, 59, 60, 24, 25], [⟨0, 6⟩, ⟨0, 4294967295⟩, ⟨0, 4294967295⟩, ⟨0, 4294967295⟩, ⟨0, 4294967295⟩, ⟨0, 4294967295⟩, ⟨0, 4294967295⟩]⟩)]⟩) (fuel := 250) v87 Try.checked.mixed hs ht hg hC Try.func87 I M (fun xs _ h => hi xs h) fun xs hx hp => by
    match xs, hx, hp with
    | [v0, v1, v2, v3, v4, v5, v6], hx, hp => rw [q87]; exact h v0 v1 v2 v3 v4 v5 v6 hx.1 hx.2.1 hx.2.2.1 hx.2.2.2.1 hx.2.2.2.2.1 hx.2.2.2.2.2.1 hx.2.2.2.2.2.2.1 hp

/-- loop.example/g01242/spec.l01DownMag -/
noncomputable def c89 : Cfg := ⟨Try.prog, []⟩
def iv89 : List Iv := [⟨0, 4294967295⟩, ⟨0, 4294967295⟩, ⟨0, 4294967295⟩, ⟨0, 4294967295⟩, ⟨0, 4294967295⟩, ⟨0, 4294967295⟩, ⟨0, 191⟩]
def t89 : VC :=
 (.bind (.div (.var 6) (.lit 32))
 (.loop 0 [(.var 7), (.lit 0), (.lit 0), (.lit 0), (.lit 0), (.lit 0), (.lit 0)] [⟨0, 6⟩, ⟨0, 4294967295⟩, ⟨0, 4294967295⟩, ⟨0, 4294967295⟩, ⟨0, 4294967295⟩, ⟨0, 4294967295⟩, ⟨0, 4294967295⟩]
  (.ite (.lt (.var 8) (.lit 6))
   (.bind (.ite (.eq (.var 8) (.lit 0)) (.var 0) (.ite (.eq (.var 8) (.lit 1)) (.var 1) (.ite (.eq (.var 8) (.lit 2)) (.var 2) (.ite (.eq (.var 8) (.lit 3)) (.var 3) (.ite (.eq (.var 8) (.lit 4)) (.var 4) (.var 5))))))
   (.ite (.lt (.add (.var 8) (.lit 1)) (.lit 6))
    (.need [(.b (.lt (.add (.var 8) (.lit 1)) (.lit 6)))]
    (.bind (.ite (.eq (.add (.var 8) (.lit 1)) (.lit 0)) (.var 0) (.ite (.eq (.add (.var 8) (.lit 1)) (.lit 1)) (.var 1) (.ite (.eq (.add (.var 8) (.lit 1)) (.lit 2)) (.var 2) (.ite (.eq (.add (.var 8) (.lit 1)) (.lit 3)) (.var 3) (.ite (.eq (.add (.var 8) (.lit 1)) (.lit 4)) (.var 4) (.var 5))))))
    (.bind (.add (.var 15) (.mul (.var 16) (.lit 4294967296)))
    (.need [(.b (.le (.lit 0) (.sub (.var 8) (.div (.var 6) (.lit 32)))))]
    (.bind (.ite (.eq (.sub (.var 8) (.div (.var 6) (.lit 32))) (.lit 0)) (.wrap .u32 (.div (.var 17) (.pow2 (.mod (.var 6) (.lit 32))))) (.var 9))
    (.bind (.ite (.eq (.sub (.var 8) (.div (.var 6) (.lit 32))) (.lit 1)) (.wrap .u32 (.div (.var 17) (.pow2 (.mod (.var 6) (.lit 32))))) (.var 10))
    (.bind (.ite (.eq (.sub (.var 8) (.div (.var 6) (.lit 32))) (.lit 2)) (.wrap .u32 (.div (.var 17) (.pow2 (.mod (.var 6) (.lit 32))))) (.var 11))
    (.bind (.ite (.eq (.sub (.var 8) (.div (.var 6) (.lit 32))) (.lit 3)) (.wrap .u32 (.div (.var 17) (.pow2 (.mod (.var 6) (.lit 32))))) (.var 12))
    (.bind (.ite (.eq (.sub (.var 8) (.div (.var 6) (.lit 32))) (.lit 4)) (.wrap .u32 (.div (.var 17) (.pow2 (.mod (.var 6) (.lit 32))))) (.var 13))
    (.bind (.ite (.eq (.sub (.var 8) (.div (.var 6) (.lit 32))) (.lit 5)) (.wrap .u32 (.div (.var 17) (.pow2 (.mod (.var 6) (.lit 32))))) (.var 14))
    (.again 0 8 [⟨0, 6⟩, ⟨0, 4294967295⟩, ⟨0, 4294967295⟩, ⟨0, 4294967295⟩, ⟨0, 4294967295⟩, ⟨0, 4294967295⟩, ⟨0, 4294967295⟩] [(.add (.var 8) (.lit 1)), (.var 18), (.var 19), (.var 20), (.var 21), (.var 22), (.var 23)])))))))))))
    (.need [(.b (.le (.lit 0) (.sub (.var 8) (.div (.var 6) (.lit 32)))))]
    (.bind (.ite (.eq (.sub (.var 8) (.div (.var 6) (.lit 32))) (.lit 0)) (.div (.var 15) (.pow2 (.mod (.var 6) (.lit 32)))) (.var 9))
    (.bind (.ite (.eq (.sub (.var 8) (.div (.var 6) (.lit 32))) (.lit 1)) (.div (.var 15) (.pow2 (.mod (.var 6) (.lit 32)))) (.var 10))
    (.bind (.ite (.eq (.sub (.var 8) (.div (.var 6) (.lit 32))) (.lit 2)) (.div (.var 15) (.pow2 (.mod (.var 6) (.lit 32)))) (.var 11))
    (.bind (.ite (.eq (.sub (.var 8) (.div (.var 6) (.lit 32))) (.lit 3)) (.div (.var 15) (.pow2 (.mod (.var 6) (.lit 32)))) (.var 12))
    (.bind (.ite (.eq (.sub (.var 8) (.div (.var 6) (.lit 32))) (.lit 4)) (.div (.var 15) (.pow2 (.mod (.var 6) (.lit 32)))) (.var 13))
    (.bind (.ite (.eq (.sub (.var 8) (.div (.var 6) (.lit 32))) (.lit 5)) (.div (.var 15) (.pow2 (.mod (.var 6) (.lit 32)))) (.var 14))
    (.again 0 8 [⟨0, 6⟩, ⟨0, 4294967295⟩, ⟨0, 4294967295⟩, ⟨0, 4294967295⟩, ⟨0, 4294967295⟩, ⟨0, 4294967295⟩, ⟨0, 4294967295⟩] [(.add (.var 8) (.lit 1)), (.var 16), (.var 17), (.var 18), (.var 19), (.var 20), (.var 21)]))))))))))
   (.fin (.e (.var 9) (.e (.var 10) (.e (.var 11) (.e (.var 12) (.e (.var 13) (.e (.var 14) .nil))))))))))
theorem v89 : vcOfI ⟨c89, [(3, ⟨0, [6], [2], [11, 12, 15, 16, 17, 18, 19, 20, 7, 21, 22, 23, 24, 25, 26, 27, 28, 29, 30, 31, 32, 33, 34, 35, 36, 37, 38, 39, 40, 41, 42, 43, 44, 13, 14], [⟨0, 6⟩, ⟨0, 4294967295⟩, ⟨0, 4294967295⟩, ⟨0, 4294967295⟩, ⟨0, 4294967295⟩, ⟨0, 4294967295⟩, ⟨0, 4294967295⟩]⟩)]⟩ iv89 250 Try.f89 s89 = t89 := by kernel_rfl
set_option linter.unusedVariables false in
def p89 (T : Tab) (I : Nat → List Int → List Int → Prop) (M : Nat → List Int → List Int → Nat) (pre : Nat → List Int → Prop) (post : List Int → Prop) (v0 v1 v2 v3 v4 v5 v6 : Int) : Prop :=
 ∀ v7 : Int, v7 = (v6 / 32) →
 ((allHas [⟨0, 6⟩, ⟨0, 4294967295⟩, ⟨0, 4294967295⟩, ⟨0, 4294967295⟩, ⟨0, 4294967295⟩, ⟨0, 4294967295⟩, ⟨0, 4294967295⟩] [v7, 0, 0, 0, 0, 0, 0] ∧ I 0 [v0, v1, v2, v3, v4, v5, v6, v7] [v7, 0, 0, 0, 0, 0, 0]) ∧ ∀ v8 v9 v10 v11 v12 v13 v14 : Int, allHas [⟨0, 6⟩, ⟨0, 4294967295⟩, ⟨0, 4294967295⟩, ⟨0, 4294967295⟩, ⟨0, 4294967295⟩, ⟨0, 4294967295⟩, ⟨0, 4294967295⟩] [v8, v9, v10, v11, v12, v13, v14] → I 0 [v0, v1, v2, v3, v4, v5, v6, v7] [v8, v9, v10, v11, v12, v13, v14] →
  ((decide ((v8 : Int) < 6) = true →
   ∀ v15 : Int, v15 = (if decide ((v8 : Int) = 0) = true then v0 else (if decide ((v8 : Int) = 1) = true then v1 else (if decide ((v8 : Int) = 2) = true then v2 else (if decide ((v8 : Int) = 3) = true then v3 else (if decide ((v8 : Int) = 4) = true then v4 else v5))))) →
   ((decide (((v8 + 1) : Int) < 6) = true →
    ((decide (((v8 + 1) : Int) < 6) = true) ∧ ((decide (((v8 + 1) : Int) < 6) = true) →
    ∀ v16 : Int, v16 = (if decide (((v8 + 1) : Int) = 0) = true then v0 else (if decide (((v8 + 1) : Int) = 1) = true then v1 else (if decide (((v8 + 1) : Int) = 2) = true then v2 else (if decide (((v8 + 1) : Int) = 3) = true then v3 else (if decide (((v8 + 1) : Int) = 4) = true then v4 else v5))))) →
    ∀ v17 : Int, v17 = (v15 + (v16 * 4294967296)) →
    ((decide ((0 : Int) ≤ (v8 - (v6 / 32))) = true) ∧ ((decide ((0 : Int) ≤ (v8 - (v6 / 32))) = true) →
    ∀ v18 : Int, v18 = (if decide (((v8 - (v6 / 32)) : Int) = 0) = true then (IntKind.wrap .u32 (v17 / (2 ^ ((v6 % 32) : Int).toNat))) else v9) →
    ∀ v19 : Int, v19 = (if decide (((v8 - (v6 / 32)) : Int) = 1) = true then (IntKind.wrap .u32 (v17 / (2 ^ ((v6 % 32) : Int).toNat))) else v10) →
    ∀ v20 : Int, v20 = (if decide (((v8 - (v6 / 32)) : Int) = 2) = true then (IntKind.wrap .u32 (v17 / (2 ^ ((v6 % 32) : Int).toNat))) else v11) →
    ∀ v21 : Int, v21 = (if decide (((v8 - (v6 / 32)) : Int) = 3) = true then (IntKind.wrap .u32 (v17 / (2 ^ ((v6 % 32) : Int).toNat))) else v12) →
    ∀ v22 : Int, v22 = (if decide (((v8 - (v6 / 32)) : Int) = 4) = true then (IntKind.wrap .u32 (v17 / (2 ^ ((v6 % 32) : Int).toNat))) else v13) →
    ∀ v23 : Int, v23 = (if decide (((v8 - (v6 / 32)) : Int) = 5) = true then (IntKind.wrap .u32 (v17 / (2 ^ ((v6 % 32) : Int).toNat))) else v14) →
    (allHas [⟨0, 6⟩, ⟨0, 4294967295⟩, ⟨0, 4294967295⟩, ⟨0, 4294967295⟩, ⟨0, 4294967295⟩, ⟨0, 4294967295⟩, ⟨0, 4294967295⟩] [(v8 + 1), v18, v19, v20, v21, v22, v23] ∧ I 0 [v0, v1, v2, v3, v4, v5, v6, v7] [(v8 + 1), v18, v19, v20, v21, v22, v23] ∧ M 0 [v0, v1, v2, v3, v4, v5, v6, v7] [(v8 + 1), v18, v19, v20, v21, v22, v23] < M 0 [v0, v1, v2, v3, v4, v5, v6, v7] [v8, v9, v10, v11, v12, v13, v14])))))) ∧ (decide (((v8 + 1) : Int) < 6) = false →
    ((decide ((0 : Int) ≤ (v8 - (v6 / 32))) = true) ∧ ((decide ((0 : Int) ≤ (v8 - (v6 / 32))) = true) →
    ∀ v16 : Int, v16 = (if decide (((v8 - (v6 / 32)) : Int) = 0) = true then (v15 / (2 ^ ((v6 % 32) : Int).toNat)) else v9) →
    ∀ v17 : Int, v17 = (if decide (((v8 - (v6 / 32)) : Int) = 1) = true then (v15 / (2 ^ ((v6 % 32) : Int).toNat)) else v10) →
    ∀ v18 : Int, v18 = (if decide (((v8 - (v6 / 32)) : Int) = 2) = true then (v15 / (2 ^ ((v6 % 32) : Int).toNat)) else v11) →
    ∀ v19 : Int, v19 = (if decide (((v8 - (v6 / 32)) : Int) = 3) = true then (v15 / (2 ^ ((v6 % 32) : Int).toNat)) else v12) →
    ∀ v20 : Int, v20 = (if decide (((v8 - (v6 / 32)) : Int) = 4) = true then (v15 / (2 ^ ((v6 % 32) : Int).toNat)) else v13) →
    ∀ v21 : Int, v21 = (if decide (((v8 - (v6 / 32)) : Int) = 5) = true then (v15 / (2 ^ ((v6 % 32) : Int).toNat)) else v14) →
    (allHas [⟨0, 6⟩, ⟨0, 4294967295⟩, ⟨0, 4294967295⟩, ⟨0, 4294967295⟩, ⟨0, 4294967295⟩, ⟨0, 4294967295⟩, ⟨0, 4294967295⟩] [(v8 + 1), v16, v17, v18, v19, v20, v21] ∧ I 0 [v0, v1, v2, v3, v4, v5, v6, v7] [(v8 + 1), v16, v17, v18, v19, v20, v21] ∧ M 0 [v0, v1, v2, v3, v4, v5, v6, v7] [(v8 + 1), v16, v17, v18, v19, v20, v21] < M 0 [v0, v1, v2, v3, v4, v5, v6, v7] [v8, v9, v10, v11, v12, v13, v14])))))) ∧ (decide ((v8 : Int) < 6) = false →
   post [v9, v10, v11, v12, v13, v14])))
theorem q89 (T : Tab) (I : Nat → List Int → List Int → Prop) (M : Nat → List Int → List Int → Nat) (pre : Nat → List Int → Prop) (post : List Int → Prop) (v0 v1 v2 v3 v4 v5 v6 : Int) : t89.plain T (presL pre I M) post ⟨[v0, v1, v2, v3, v4, v5, v6], []⟩ = p89 T I M pre post v0 v1 v2 v3 v4 v5 v6 := by kernel_rfl
theorem k89 (T : Tab) (I : Nat → List Int → List Int → Prop) (M : Nat → List Int → List Int → Nat) (pre : Nat → List Int → Prop) (hs : SubSig T c89.sigs) (ht : Tot pre c89.sigs) (hg : T.sig 89 = some s89) (hC : CtAll Try.prog T.fns (pres pre) c89.sigs) (hi : ∀ xs, pre 89 xs → allHas iv89 xs)
    (h : ∀ (v0 v1 v2 v3 v4 v5 v6 : Int), (0 ≤ v0 ∧ v0 ≤ 4294967295) → (0 ≤ v1 ∧ v1 ≤ 4294967295) → (0 ≤ v2 ∧ v2 ≤ 4294967295) → (0 ≤ v3 ∧ v3 ≤ 4294967295) → (0 ≤ v4 ∧ v4 ≤ 4294967295) → (0 ≤ v5 ∧ v5 ≤ 4294967295) → (0 ≤ v6 ∧ v6 ≤ 191) → pre 89 [v0, v1, v2, v3, v4, v5, v6] → p89 T I M pre (fun ys => ys = T.fn 89 [v0, v1, v2, v3, v4, v5, v6]) v0 v1 v2 v3 v4 v5 v6) : CT Try.prog T.fns (pres pre) 89 s89 :=
  T.ctq (F := ⟨c89, [(3, ⟨0, [6], [2], [11, 12, 15, 16, 17, 18, 19, 20, 7, 21, 22, 23, 24, 25, 26, 27, 28, 29, 30, 31, 32, 33, 34, 35, 36, 37, 38, 39, 40, 41, 42, 43, 44, 13, 14], [⟨0, 6⟩, ⟨0, 4294967295⟩, ⟨0, 4294967295⟩, ⟨0, 4294967295⟩, ⟨0, 4294967295⟩, ⟨0, 4294967295⟩, ⟨0, 4294967295⟩]⟩)]⟩) (fuel := 250) v89 Try.checked.mixed hs ht hg hC Try.func89 I M (fun xs _ h => hi xs h) fun xs hx hp => by
    match xs, hx, hp with
    | [v0, v1, v2, v3, v4, v5, v6], hx, hp => rw [q89]; exact h v0 v1 v2 v3 v4 v5 v6 hx.1 hx.2.1 hx.2.2.1 hx.2.2.2.1 hx.2.2.2.2.1 hx.2.2.2.2.2.1 hx.2.2.2.2.2.2.1 hp

/-- loop.example/g01242/spec.l01Up -/
noncomputable def c49 : Cfg := ⟨Try.prog, [(87, s87), (70, s70)]⟩
def iv49 : List Iv := [⟨0, 1⟩, ⟨0, 4294967295⟩, ⟨0, 4294967295⟩, ⟨0, 4294967295⟩, ⟨0, 4294967295⟩, ⟨0, 4294967295⟩, ⟨0, 4294967295⟩, ⟨0, 191⟩]
def t49 : VC :=
 (.need [(.pre 87 (.e (.var 1) (.e (.var 2) (.e (.var 3) (.e (.var 4) (.e (.var 5) (.e (.var 6) (.e (.var 7) .nil))))))))]
 (.call 87 (.e (.var 1) (.e (.var 2) (.e (.var 3) (.e (.var 4) (.e (.var 5) (.e (.var 6) (.e (.var 7) .nil))))))) 7
 (.ite (.not (.eq (.var 14) (.lit 1)))
  (.fin (.e (.lit 0) (.e (.lit 0) (.e (.lit 0) (.e (.lit 0) (.e (.lit 0) (.e (.lit 0) (.e (.lit 0) (.e (.lit 3) .nil)))))))))
  (.call 70 (.e (.var 0) (.e (.var 8) (.e (.var 9) (.e (.var 10) (.e (.var 11) (.e (.var 12) (.e (.var 13) .nil))))))) 7
  (.fin (.e (.var 15) (.e (.var 16) (.e (.var 17) (.e (.var 18) (.e (.var 19) (.e (.var 20) (.e (.var 21) (.e (.lit 0) .nil)))))))))))))
theorem v49 : vcOfI ⟨c49, []⟩ iv49 250 Try.f49 s49 = t49 := by kernel_rfl
set_option linter.unusedVariables false in
def p49 (T : Tab) (I : Nat → List Int → List Int → Prop) (M : Nat → List Int → List Int → Nat) (pre : Nat → List Int → Prop) (post : List Int → Prop) (v0 v1 v2 v3 v4 v5 v6 v7 : Int) : Prop :=
 ((pre 87 [v1, v2, v3, v4, v5, v6, v7]) ∧ ((pre 87 [v1, v2, v3, v4, v5, v6, v7]) →
 ∀ v8 v9 v10 v11 v12 v13 v14 : Int, [v8, v9, v10, v11, v12, v13, v14] = T.out 87 7 [v1, v2, v3, v4, v5, v6, v7] →
 (((!decide ((v14 : Int) = 1)) = true →
  post [0, 0, 0, 0, 0, 0, 0, 3]) ∧ ((!decide ((v14 : Int) = 1)) = false →
  ∀ v15 v16 v17 v18 v19 v20 v21 : Int, [v15, v16, v17, v18, v19, v20, v21] = T.out 70 7 [v0, v8, v9, v10, v11, v12, v13] →
  post [v15, v16, v17, v18, v19, v20, v21, 0]))))
theorem q49 (T : Tab) (I : Nat → List Int → List Int → Prop) (M : Nat → List Int → List Int → Nat) (pre : Nat → List Int → Prop) (post : List Int → Prop) (v0 v1 v2 v3 v4 v5 v6 v7 : Int) : t49.plain T (presL pre I M) post ⟨[v0, v1, v2, v3, v4, v5, v6, v7], []⟩ = p49 T I M pre post v0 v1 v2 v3 v4 v5 v6 v7 := by kernel_rfl
theorem k49 (T : Tab) (I : Nat → List Int → List Int → Prop) (M : Nat → List Int → List Int → Nat) (pre : Nat → List Int → Prop) (hs : SubSig T c49.sigs) (ht : Tot pre c49.sigs) (hg : T.sig 49 = some s49) (hC : CtAll Try.prog T.fns (pres pre) c49.sigs) (hi : ∀ xs, pre 49 xs → allHas iv49 xs)
    (h : ∀ (v0 v1 v2 v3 v4 v5 v6 v7 : Int), (0 ≤ v0 ∧ v0 ≤ 1) → (0 ≤ v1 ∧ v1 ≤ 4294967295) → (0 ≤ v2 ∧ v2 ≤ 4294967295) → (0 ≤ v3 ∧ v3 ≤ 4294967295) → (0 ≤ v4 ∧ v4 ≤ 4294967295) → (0 ≤ v5 ∧ v5 ≤ 4294967295) → (0 ≤ v6 ∧ v6 ≤ 4294967295) → (0 ≤ v7 ∧ v7 ≤ 191) → pre 49 [v0, v1, v2, v3, v4, v5, v6, v7] → p49 T I M pre (fun ys => ys = T.fn 49 [v0, v1, v2, v3, v4, v5, v6, v7]) v0 v1 v2 v3 v4 v5 v6 v7) : CT Try.prog T.fns (pres pre) 49 s49 :=
  T.ctq (F := ⟨c49, []⟩) (fuel := 250) v49 Try.checked.mixed hs ht hg hC Try.func49 I M (fun xs _ h => hi xs h) fun xs hx hp => by
    match xs, hx, hp with
    | [v0, v1, v2, v3, v4, v5, v6, v7], hx, hp => rw [q49]; exact h v0 v1 v2 v3 v4 v5 v6 v7 hx.1 hx.2.1 hx.2.2.1 hx.2.2.2.1 hx.2.2.2.2.1 hx.2.2.2.2.2.1 hx.2.2.2.2.2.2.1 hx.2.2.2.2.2.2.2.1 hp

/-- loop.example/g01242/spec.l01Near -/
noncomputable def c53 : Cfg := ⟨Try.prog, [(89, s89), (87, s87), (90, s90), (91, s91), (70, s70)]⟩
def iv53 : List Iv := [⟨0, 1⟩, ⟨0, 4294967295⟩, ⟨0, 4294967295⟩, ⟨0, 4294967295⟩, ⟨0, 4294967295⟩, ⟨0, 4294967295⟩, ⟨0, 4294967295⟩, ⟨0, 191⟩]
def t53 : VC :=
 (.ite (.eq (.var 7) (.lit 0))
  (.fin (.e (.var 0) (.e (.var 1) (.e (.var 2) (.e (.var 3) (.e (.var 4) (.e (.var 5) (.e (.var 6) .nil))))))))
  (.need [(.pre 89 (.e (.var 1) (.e (.var 2) (.e (.var 3) (.e (.var 4) (.e (.var 5) (.e (.var 6) (.e (.var 7) .nil))))))))]
  (.call 89 (.e (.var 1) (.e (.var 2) (.e (.var 3) (.e (.var 4) (.e (.var 5) (.e (.var 6) (.e (.var 7) .nil))))))) 6
  (.need [(.pre 89 (.e (.var 1) (.e (.var 2) (.e (.var 3) (.e (.var 4) (.e (.var 5) (.e (.var 6) (.e (.sub (.var 7) (.lit 1)) .nil))))))))]
  (.call 89 (.e (.var 1) (.e (.var 2) (.e (.var 3) (.e (.var 4) (.e (.var 5) (.e (.var 6) (.e (.sub (.var 7) (.lit 1)) .nil))))))) 6
  (.need [(.pre 87 (.e (.var 8) (.e (.var 9) (.e (.var 10) (.e (.var 11) (.e (.var 12) (.e (.var 13) (.e (.var 7) .nil))))))))]
  (.call 87 (.e (.var 8) (.e (.var 9) (.e (.var 10) (.e (.var 11) (.e (.var 12) (.e (.var 13) (.e (.var 7) .nil))))))) 7
  (.call 90 (.e (.var 1) (.e (.var 2) (.e (.var 3) (.e (.var 4) (.e (.var 5) (.e (.var 6) (.e (.var 20) (.e (.var 21) (.e (.var 22) (.e (.var 23) (.e (.var 24) (.e (.var 25) .nil)))))))))))) 6
  (.need [(.pre 87 (.e (.lit 1) (.e (.lit 0) (.e (.lit 0) (.e (.lit 0) (.e (.lit 0) (.e (.lit 0) (.e (.sub (.var 7) (.lit 1)) .nil))))))))]
  (.call 87 (.e (.lit 1) (.e (.lit 0) (.e (.lit 0) (.e (.lit 0) (.e (.lit 0) (.e (.lit 0) (.e (.sub (.var 7) (.lit 1)) .nil))))))) 7
  (.bind (.mod (.var 14) (.lit 2))
  (.ite (.eq (.var 0) (.lit 1))
   (.bind (.ite (.or (.and (.and (.eq (.var 27) (.var 33)) (.and (.eq (.var 28) (.var 34)) (.and (.eq (.var 29) (.var 35)) (.and (.eq (.var 30) (.var 36)) (.and (.eq (.var 31) (.var 37)) (.eq (.var 32) (.var 38))))))) (.lit false)) (.and (.not (.and (.eq (.var 27) (.var 33)) (.and (.eq (.var 28) (.var 34)) (.and (.eq (.var 29) (.var 35)) (.and (.eq (.var 30) (.var 36)) (.and (.eq (.var 31) (.var 37)) (.eq (.var 32) (.var 38)))))))) (.eq (.var 40) (.lit 1)))) (.lit 1) (.lit 0))
   (.ite (.eq (.var 41) (.lit 1))
    (.call 91 (.e (.var 8) (.e (.var 9) (.e (.var 10) (.e (.var 11) (.e (.var 12) (.e (.var 13) (.e (.lit 1) (.e (.lit 0) (.e (.lit 0) (.e (.lit 0) (.e (.lit 0) (.e (.lit 0) .nil)))))))))))) 7
    (.call 70 (.e (.var 0) (.e (.var 42) (.e (.var 43) (.e (.var 44) (.e (.var 45) (.e (.var 46) (.e (.var 47) .nil))))))) 7
    (.fin (.e (.var 49) (.e (.var 50) (.e (.var 51) (.e (.var 52) (.e (.var 53) (.e (.var 54) (.e (.var 55) .nil))))))))))
    (.call 70 (.e (.var 0) (.e (.var 8) (.e (.var 9) (.e (.var 10) (.e (.var 11) (.e (.var 12) (.e (.var 13) .nil))))))) 7
    (.fin (.e (.var 42) (.e (.var 43) (.e (.var 44) (.e (.var 45) (.e (.var 46) (.e (.var 47) (.e (.var 48) .nil)))))))))))
   (.ite (.eq (.var 40) (.lit 1))
    (.call 91 (.e (.var 8) (.e (.var 9) (.e (.var 10) (.e (.var 11) (.e (.var 12) (.e (.var 13) (.e (.lit 1) (.e (.lit 0) (.e (.lit 0) (.e (.lit 0) (.e (.lit 0) (.e (.lit 0) .nil)))))))))))) 7
    (.call 70 (.e (.var 0) (.e (.var 41) (.e (.var 42) (.e (.var 43) (.e (.var 44) (.e (.var 45) (.e (.var 46) .nil))))))) 7
    (.fin (.e (.var 48) (.e (.var 49) (.e (.var 50) (.e (.var 51) (.e (.var 52) (.e (.var 53) (.e (.var 54) .nil))))))))))
    (.call 70 (.e (.var 0) (.e (.var 8) (.e (.var 9) (.e (.var 10) (.e (.var 11) (.e (.var 12) (.e (.var 13) .nil))))))) 7
    (.fin (.e (.var 41) (.e (.var 42) (.e (.var 43) (.e (.var 44) (.e (.var 45) (.e (.var 46) (.e (.var 47) .nil))))))))))))))))))))))
theorem v53 : vcOfI ⟨c53, []⟩ iv53 250 Try.f53 s53 = t53 := by kernel_rfl
set_option linter.unusedVariables false in
def p53 (T : Tab) (I : Nat → List Int → List Int → Prop) (M : Nat → List Int → List Int → Nat) (pre : Nat → List Int → Prop) (post : List Int → Prop) (v0 v1 v2 v3 v4 v5 v6 v7 : Int) : Prop :=
 ((decide ((v7 : Int) = 0) = true →
  post [v0, v1, v2, v3, v4, v5, v6]) ∧ (decide ((v7 : Int) = 0) = false →
  ((pre 89 [v1, v2, v3, v4, v5, v6, v7]) ∧ ((pre 89 [v1, v2, v3, v4, v5, v6, v7]) →
  ∀ v8 v9 v10 v11 v12 v13 : Int, [v8, v9, v10, v11, v12, v13] = T.out 89 6 [v1, v2, v3, v4, v5, v6, v7] →
  ((pre 89 [v1, v2, v3, v4, v5, v6, (v7 - 1)]) ∧ ((pre 89 [v1, v2, v3, v4, v5, v6, (v7 - 1)]) →
  ∀ v14 v15 v16 v17 v18 v19 : Int, [v14, v15, v16, v17, v18, v19] = T.out 89 6 [v1, v2, v3, v4, v5, v6, (v7 - 1)] →
  ((pre 87 [v8, v9, v10, v11, v12, v13, v7]) ∧ ((pre 87 [v8, v9, v10, v11, v12, v13, v7]) →
  ∀ v20 v21 v22 v23 v24 v25 v26 : Int, [v20, v21, v22, v23, v24, v25, v26] = T.out 87 7 [v8, v9, v10, v11, v12, v13, v7] →
  ∀ v27 v28 v29 v30 v31 v32 : Int, [v27, v28, v29, v30, v31, v32] = T.out 90 6 [v1, v2, v3, v4, v5, v6, v20, v21, v22, v23, v24, v25] →
  ((pre 87 [1, 0, 0, 0, 0, 0, (v7 - 1)]) ∧ ((pre 87 [1, 0, 0, 0, 0, 0, (v7 - 1)]) →
  ∀ v33 v34 v35 v36 v37 v38 v39 : Int, [v33, v34, v35, v36, v37, v38, v39] = T.out 87 7 [1, 0, 0, 0, 0, 0, (v7 - 1)] →
  ∀ v40 : Int, v40 = (v14 % 2) →
  ((decide ((v0 : Int) = 1) = true →
   ∀ v41 : Int, v41 = (if (((decide ((v27 : Int) = v33) && (decide ((v28 : Int) = v34) && (decide ((v29 : Int) = v35) && (decide ((v30 : Int) = v36) && (decide ((v31 : Int) = v37) && decide ((v32 : Int) = v38)))))) && false) || ((!(decide ((v27 : Int) = v33) && (decide ((v28 : Int) = v34) && (decide ((v29 : Int) = v35) && (decide ((v30 : Int) = v36) && (decide ((v31 : Int) = v37) && decide ((v32 : Int) = v38))))))) && decide ((v40 : Int) = 1))) = true then 1 else 0) →
   ((decide ((v41 : Int) = 1) = true →
    ∀ v42 v43 v44 v45 v46 v47 v48 : Int, [v42, v43, v44, v45, v46, v47, v48] = T.out 91 7 [v8, v9, v10, v11, v12, v13, 1, 0, 0, 0, 0, 0] →
    ∀ v49 v50 v51 v52 v53 v54 v55 : Int, [v49, v50, v51, v52, v53, v54, v55] = T.out 70 7 [v0, v42, v43, v44, v45, v46, v47] →
    post [v49, v50, v51, v52, v53, v54, v55]) ∧ (decide ((v41 : Int) = 1) = false →
    ∀ v42 v43 v44 v45 v46 v47 v48 : Int, [v42, v43, v44, v45, v46, v47, v48] = T.out 70 7 [v0, v8, v9, v10, v11, v12, v13] →
    post [v42, v43, v44, v45, v46, v47, v48]))) ∧ (decide ((v0 : Int) = 1) = false →
   ((decide ((v40 : Int) = 1) = true →
    ∀ v41 v42 v43 v44 v45 v46 v47 : Int, [v41, v42, v43, v44, v45, v46, v47] = T.out 91 7 [v8, v9, v10, v11, v12, v13, 1, 0, 0, 0, 0, 0] →
    ∀ v48 v49 v50 v51 v52 v53 v54 : Int, [v48, v49, v50, v51, v52, v53, v54] = T.out 70 7 [v0, v41, v42, v43, v44, v45, v46] →
    post [v48, v49, v50, v51, v52, v53, v54]) ∧ (decide ((v40 : Int) = 1) = false →
    ∀ v41 v42 v43 v44 v45 v46 v47 : Int, [v41, v42, v43, v44, v45, v46, v47] = T.out 70 7 [v0, v8, v9, v10, v11, v12, v13] →
    post [v41, v42, v43, v44, v45, v46, v47]))))))))))))))
theorem q53 (T : Tab) (I : Nat → List Int → List Int → Prop) (M : Nat → List Int → List Int → Nat) (pre : Nat → List Int → Prop) (post : List Int → Prop) (v0 v1 v2 v3 v4 v5 v6 v7 : Int) : t53.plain T (presL pre I M) post ⟨[v0, v1, v2, v3, v4, v5, v6, v7], []⟩ = p53 T I M pre post v0 v1 v2 v3 v4 v5 v6 v7 := by kernel_rfl
theorem k53 (T : Tab) (I : Nat → List Int → List Int → Prop) (M : Nat → List Int → List Int → Nat) (pre : Nat → List Int → Prop) (hs : SubSig T c53.sigs) (ht : Tot pre c53.sigs) (hg : T.sig 53 = some s53) (hC : CtAll Try.prog T.fns (pres pre) c53.sigs) (hi : ∀ xs, pre 53 xs → allHas iv53 xs)
    (h : ∀ (v0 v1 v2 v3 v4 v5 v6 v7 : Int), (0 ≤ v0 ∧ v0 ≤ 1) → (0 ≤ v1 ∧ v1 ≤ 4294967295) → (0 ≤ v2 ∧ v2 ≤ 4294967295) → (0 ≤ v3 ∧ v3 ≤ 4294967295) → (0 ≤ v4 ∧ v4 ≤ 4294967295) → (0 ≤ v5 ∧ v5 ≤ 4294967295) → (0 ≤ v6 ∧ v6 ≤ 4294967295) → (0 ≤ v7 ∧ v7 ≤ 191) → pre 53 [v0, v1, v2, v3, v4, v5, v6, v7] → p53 T I M pre (fun ys => ys = T.fn 53 [v0, v1, v2, v3, v4, v5, v6, v7]) v0 v1 v2 v3 v4 v5 v6 v7) : CT Try.prog T.fns (pres pre) 53 s53 :=
  T.ctq (F := ⟨c53, []⟩) (fuel := 250) v53 Try.checked.mixed hs ht hg hC Try.func53 I M (fun xs _ h => hi xs h) fun xs hx hp => by
    match xs, hx, hp with
    | [v0, v1, v2, v3, v4, v5, v6, v7], hx, hp => rw [q53]; exact h v0 v1 v2 v3 v4 v5 v6 v7 hx.1 hx.2.1 hx.2.2.1 hx.2.2.2.1 hx.2.2.2.2.1 hx.2.2.2.2.2.1 hx.2.2.2.2.2.2.1 hx.2.2.2.2.2.2.2.1 hp

end Go.Proofs.Ytmlmdicdblgcfaa.Sx

namespace Go.Proofs.Ytmlmdicdblgcfaa.Sx
open Go Go.RowKit
/-- loop.example/g01242/spec.l01Plus -/
noncomputable def c91 : Cfg := ⟨Try.prog, []⟩
def iv91 : List Iv := [⟨0, 4294967295⟩, ⟨0, 4294967295⟩, ⟨0, 4294967295⟩, ⟨0, 4294967295⟩, ⟨0, 4294967295⟩, ⟨0, 4294967295⟩, ⟨0, 4294967295⟩, ⟨0, 4294967295⟩, ⟨0, 4294967295⟩, ⟨0, 4294967295⟩, ⟨0, 4294967295⟩, ⟨0, 4294967295⟩]
def t91 : VC :=
 (.bind (.add (.var 0) (.var 6))
 (.bind (.wrap .u32 (.var 12))
 (.bind (.div (.var 12) (.lit 4294967296))
 (.bind (.add (.add (.var 1) (.var 7)) (.var 14))
 (.bind (.wrap .u32 (.var 15))
 (.bind (.div (.var 15) (.lit 4294967296))
 (.bind (.add (.add (.var 2) (.var 8)) (.var 17))
 (.bind (.wrap .u32 (.var 18))
 (.bind (.div (.var 18) (.lit 4294967296))
 (.bind (.add (.add (.var 3) (.var 9)) (.var 20))
 (.bind (.wrap .u32 (.var 21))
 (.bind (.div (.var 21) (.lit 4294967296))
 (.bind (.add (.add (.var 4) (.var 10)) (.var 23))
 (.bind (.wrap .u32 (.var 24))
 (.bind (.div (.var 24) (.lit 4294967296))
 (.bind (.add (.add (.var 5) (.var 11)) (.var 26))
 (.bind (.wrap .u32 (.var 27))
 (.bind (.div (.var 27) (.lit 4294967296))
 (.fin (.e (.var 13) (.e (.var 16) (.e (.var 19) (.e (.var 22) (.e (.var 25) (.e (.var 28) (.e (.ite (.eq (.var 29) (.lit 0)) (.lit 1) (.lit 0)) .nil))))))))))))))))))))))))))
theorem v91 : vcOfI ⟨c91, []⟩ iv91 250 Try.f91 s91 = t91 := by kernel_rfl
set_option linter.unusedVariables false in
def p91 (T : Tab) (I : Nat → List Int → List Int → Prop) (M : Nat → List Int → List Int → Nat) (pre : Nat → List Int → Prop) (post : List Int → Prop) (v0 v1 v2 v3 v4 v5 v6 v7 v8 v9 v10 v11 : Int) : Prop :=
 ∀ v12 : Int, v12 = (v0 + v6) →
 ∀ v13 : Int, v13 = (IntKind.wrap .u32 v12) →
 ∀ v14 : Int, v14 = (v12 / 4294967296) →
 ∀ v15 : Int, v15 = ((v1 + v7) + v14) →
 ∀ v16 : Int, v16 = (IntKind.wrap .u32 v15) →
 ∀ v17 : Int, v17 = (v15 / 4294967296) →
 ∀ v18 : Int, v18 = ((v2 + v8) + v17) →
 ∀ v19 : Int, v19 = (IntKind.wrap .u32 v18) →
 ∀ v20 : Int, v20 = (v18 / 4294967296) →
 ∀ v21 : Int, v21 = ((v3 + v9) + v20) →
 ∀ v22 : Int, v22 = (IntKind.wrap .u32 v21) →
 ∀ v23 : Int, v23 = (v21 / 4294967296) →
 ∀ v24 : Int, v24 = ((v4 + v10) + v23) →
 ∀ v25 : Int, v25 = (IntKind.wrap .u32 v24) →
 ∀ v26 : Int, v26 = (v24 / 4294967296) →
 ∀ v27 : Int, v27 = ((v5 + v11) + v26) →
 ∀ v28 : Int, v28 = (IntKind.wrap .u32 v27) →
 ∀ v29 : Int, v29 = (v27 / 4294967296) →
 post [v13, v16, v19, v22, v25, v28, (if decide ((v29 : Int) = 0) = true then 1 else 0)]
theorem q91 (T : Tab) (I : Nat → List Int → List Int → Prop) (M : Nat → List Int → List Int → Nat) (pre : Nat → List Int → Prop) (post : List Int → Prop) (v0 v1 v2 v3 v4 v5 v6 v7 v8 v9 v10 v11 : Int) : t91.plain T (presL pre I M) post ⟨[v0, v1, v2, v3, v4, v5, v6, v7, v8, v9, v10, v11], []⟩ = p91 T I M pre post v0 v1 v2 v3 v4 v5 v6 v7 v8 v9 v10 v11 := by kernel_rfl
theorem k91 (T : Tab) (I : Nat → List Int → List Int → Prop) (M : Nat → List Int → List Int → Nat) (pre : Nat → List Int → Prop) (hs : SubSig T c91.sigs) (ht : Tot pre c91.sigs) (hg : T.sig 91 = some s91) (hC : CtAll Try.prog T.fns (pres pre) c91.sigs)
    (h : ∀ (v0 v1 v2 v3 v4 v5 v6 v7 v8 v9 v10 v11 : Int), (0 ≤ v0 ∧ v0 ≤ 4294967295) → (0 ≤ v1 ∧ v1 ≤ 4294967295) → (0 ≤ v2 ∧ v2 ≤ 4294967295) → (0 ≤ v3 ∧ v3 ≤ 4294967295) → (0 ≤ v4 ∧ v4 ≤ 4294967295) → (0 ≤ v5 ∧ v5 ≤ 4294967295) → (0 ≤ v6 ∧ v6 ≤ 4294967295) → (0 ≤ v7 ∧ v7 ≤ 4294967295) → (0 ≤ v8 ∧ v8 ≤ 4294967295) → (0 ≤ v9 ∧ v9 ≤ 4294967295) → (0 ≤ v10 ∧ v10 ≤ 4294967295) → (0 ≤ v11 ∧ v11 ≤ 4294967295) → pre 91 [v0, v1, v2, v3, v4, v5, v6, v7, v8, v9, v10, v11] → p91 T I M pre (fun ys => ys = T.fn 91 [v0, v1, v2, v3, v4, v5, v6, v7, v8, v9, v10, v11]) v0 v1 v2 v3 v4 v5 v6 v7 v8 v9 v10 v11) : CT Try.prog T.fns (pres pre) 91 s91 :=
  T.ctq (F := ⟨c91, []⟩) (fuel := 250) v91 Try.checked.mixed hs ht hg hC Try.func91 I M (fun _ h _ => h) fun xs hx hp => by
    match xs, hx, hp with
    | [v0, v1, v2, v3, v4, v5, v6, v7, v8, v9, v10, v11], hx, hp => rw [q91]; exact h v0 v1 v2 v3 v4 v5 v6 v7 v8 v9 v10 v11 hx.1 hx.2.1 hx.2.2.1 hx.2.2.2.1 hx.2.2.2.2.1 hx.2.2.2.2.2.1 hx.2.2.2.2.2.2.1 hx.2.2.2.2.2.2.2.1 hx.2.2.2.2.2.2.2.2.1 hx.2.2.2.2.2.2.2.2.2.1 hx.2.2.2.2.2.2.2.2.2.2.1 hx.2.2.2.2.2.2.2.2.2.2.2.1 hp

/-- loop.example/g01242/spec.l01Minus -/
noncomputable def c90 : Cfg := ⟨Try.prog, []⟩
def iv90 : List Iv := [⟨0, 4294967295⟩, ⟨0, 4294967295⟩, ⟨0, 4294967295⟩, ⟨0, 4294967295⟩, ⟨0, 4294967295⟩, ⟨0, 4294967295⟩, ⟨0, 4294967295⟩, ⟨0, 4294967295⟩, ⟨0, 4294967295⟩, ⟨0, 4294967295⟩, ⟨0, 4294967295⟩, ⟨0, 4294967295⟩]
def t90 : VC :=
 (.bind (.sub (.var 0) (.var 6))
 (.bind (.ite (.lt (.var 12) (.lit 0)) (.lit 1) (.lit 0))
 (.bind (.ite (.lt (.var 12) (.lit 0)) (.add (.var 12) (.lit 4294967296)) (.var 12))
 (.bind (.wrap .u32 (.var 14))
 (.bind (.sub (.sub (.var 1) (.var 7)) (.var 13))
 (.bind (.ite (.lt (.var 16) (.lit 0)) (.lit 1) (.lit 0))
 (.bind (.ite (.lt (.var 16) (.lit 0)) (.add (.var 16) (.lit 4294967296)) (.var 16))
 (.bind (.wrap .u32 (.var 18))
 (.bind (.sub (.sub (.var 2) (.var 8)) (.var 17))
 (.bind (.ite (.lt (.var 20) (.lit 0)) (.lit 1) (.lit 0))
 (.bind (.ite (.lt (.var 20) (.lit 0)) (.add (.var 20) (.lit 4294967296)) (.var 20))
 (.bind (.wrap .u32 (.var 22))
 (.bind (.sub (.sub (.var 3) (.var 9)) (.var 21))
 (.bind (.ite (.lt (.var 24) (.lit 0)) (.lit 1) (.lit 0))
 (.bind (.ite (.lt (.var 24) (.lit 0)) (.add (.var 24) (.lit 4294967296)) (.var 24))
 (.bind (.wrap .u32 (.var 26))
 (.bind (.sub (.sub (.var 4) (.var 10)) (.var 25))
 (.bind (.ite (.lt (.var 28) (.lit 0)) (.lit 1) (.lit 0))
 (.bind (.ite (.lt (.var 28) (.lit 0)) (.add (.var 28) (.lit 4294967296)) (.var 28))
 (.bind (.wrap .u32 (.var 30))
 (.bind (.sub (.sub (.var 5) (.var 11)) (.var 29))
 (.bind (.ite (.lt (.var 32) (.lit 0)) (.lit 1) (.lit 0))
 (.bind (.ite (.lt (.var 32) (.lit 0)) (.add (.var 32) (.lit 4294967296)) (.var 32))
 (.bind (.wrap .u32 (.var 34))
 (.fin (.e (.var 15) (.e (.var 19) (.e (.var 23) (.e (.var 27) (.e (.var 31) (.e (.var 35) .nil)))))))))))))))))))))))))))))))
theorem v90 : vcOfI ⟨c90, []⟩ iv90 250 Try.f90 s90 = t90 := by kernel_rfl
set_option linter.unusedVariables false in
def p90 (T : Tab) (I : Nat → List Int → List Int → Prop) (M : Nat → List Int → List Int → Nat) (pre : Nat → List Int → Prop) (post : List Int → Prop) (v0 v1 v2 v3 v4 v5 v6 v7 v8 v9 v10 v11 : Int) : Prop :=
 ∀ v12 : Int, v12 = (v0 - v6) →
 ∀ v13 : Int, v13 = (if decide ((v12 : Int) < 0) = true then 1 else 0) →
 ∀ v14 : Int, v14 = (if decide ((v12 : Int) < 0) = true then (v12 + 4294967296) else v12) →
 ∀ v15 : Int, v15 = (IntKind.wrap .u32 v14) →
 ∀ v16 : Int, v16 = ((v1 - v7) - v13) →
 ∀ v17 : Int, v17 = (if decide ((v16 : Int) < 0) = true then 1 else 0) →
 ∀ v18 : Int, v18 = (if decide ((v16 : Int) < 0) = true then (v16 + 4294967296) else v16) →
 ∀ v19 : Int, v19 = (IntKind.wrap .u32 v18) →
 ∀ v20 : Int, v20 = ((v2 - v8) - v17) →
 ∀ v21 : Int, v21 = (if decide ((v20 : Int) < 0) = true then 1 else 0) →
 ∀ v22 : Int, v22 = (if decide ((v20 : Int) < 0) = true then (v20 + 4294967296) else v20) →
 ∀ v23 : Int, v23 = (IntKind.wrap .u32 v22) →
 ∀ v24 : Int, v24 = ((v3 - v9) - v21) →
 ∀ v25 : Int, v25 = (if decide ((v24 : Int) < 0) = true then 1 else 0) →
 ∀ v26 : Int, v26 = (if decide ((v24 : Int) < 0) = true then (v24 + 4294967296) else v24) →
 ∀ v27 : Int, v27 = (IntKind.wrap .u32 v26) →
 ∀ v28 : Int, v28 = ((v4 - v10) - v25) →
 ∀ v29 : Int, v29 = (if decide ((v28 : Int) < 0) = true then 1 else 0) →
 ∀ v30 : Int, v30 = (if decide ((v28 : Int) < 0) = true then (v28 + 4294967296) else v28) →
 ∀ v31 : Int, v31 = (IntKind.wrap .u32 v30) →
 ∀ v32 : Int, v32 = ((v5 - v11) - v29) →
 ∀ v33 : Int, v33 = (if decide ((v32 : Int) < 0) = true then 1 else 0) →
 ∀ v34 : Int, v34 = (if decide ((v32 : Int) < 0) = true then (v32 + 4294967296) else v32) →
 ∀ v35 : Int, v35 = (IntKind.wrap .u32 v34) →
 post [v15, v19, v23, v27, v31, v35]
theorem q90 (T : Tab) (I : Nat → List Int → List Int → Prop) (M : Nat → List Int → List Int → Nat) (pre : Nat → List Int → Prop) (post : List Int → Prop) (v0 v1 v2 v3 v4 v5 v6 v7 v8 v9 v10 v11 : Int) : t90.plain T (presL pre I M) post ⟨[v0, v1, v2, v3, v4, v5, v6, v7, v8, v9, v10, v11], []⟩ = p90 T I M pre post v0 v1 v2 v3 v4 v5 v6 v7 v8 v9 v10 v11 := by kernel_rfl
theorem k90 (T : Tab) (I : Nat → List Int → List Int → Prop) (M : Nat → List Int → List Int → Nat) (pre : Nat → List Int → Prop) (hs : SubSig T c90.sigs) (ht : Tot pre c90.sigs) (hg : T.sig 90 = some s90) (hC : CtAll Try.prog T.fns (pres pre) c90.sigs)
    (h : ∀ (v0 v1 v2 v3 v4 v5 v6 v7 v8 v9 v10 v11 : Int), (0 ≤ v0 ∧ v0 ≤ 4294967295) → (0 ≤ v1 ∧ v1 ≤ 4294967295) → (0 ≤ v2 ∧ v2 ≤ 4294967295) → (0 ≤ v3 ∧ v3 ≤ 4294967295) → (0 ≤ v4 ∧ v4 ≤ 4294967295) → (0 ≤ v5 ∧ v5 ≤ 4294967295) → (0 ≤ v6 ∧ v6 ≤ 4294967295) → (0 ≤ v7 ∧ v7 ≤ 4294967295) → (0 ≤ v8 ∧ v8 ≤ 4294967295) → (0 ≤ v9 ∧ v9 ≤ 4294967295) → (0 ≤ v10 ∧ v10 ≤ 4294967295) → (0 ≤ v11 ∧ v11 ≤ 4294967295) → pre 90 [v0, v1, v2, v3, v4, v5, v6, v7, v8, v9, v10, v11] → p90 T I M pre (fun ys => ys = T.fn 90 [v0, v1, v2, v3, v4, v5, v6, v7, v8, v9, v10, v11]) v0 v1 v2 v3 v4 v5 v6 v7 v8 v9 v10 v11) : CT Try.prog T.fns (pres pre) 90 s90 :=
  T.ctq (F := ⟨c90, []⟩) (fuel := 250) v90 Try.checked.mixed hs ht hg hC Try.func90 I M (fun _ h _ => h) fun xs hx hp => by
    match xs, hx, hp with
    | [v0, v1, v2, v3, v4, v5, v6, v7, v8, v9, v10, v11], hx, hp => rw [q90]; exact h v0 v1 v2 v3 v4 v5 v6 v7 v8 v9 v10 v11 hx.1 hx.2.1 hx.2.2.1 hx.2.2.2.1 hx.2.2.2.2.1 hx.2.2.2.2.2.1 hx.2.2.2.2.2.2.1 hx.2.2.2.2.2.2.2.1 hx.2.2.2.2.2.2.2.2.1 hx.2.2.2.2.2.2.2.2.2.1 hx.2.2.2.2.2.2.2.2.2.2.1 hx.2.2.2.2.2.2.2.2.2.2.2.1 hp

/-- loop.example/g01242/spec.l01Cmp -/
noncomputable def c93 : Cfg := ⟨Try.prog, []⟩
def iv93 : List Iv := [⟨0, 4294967295⟩, ⟨0, 4294967295⟩, ⟨0, 4294967295⟩, ⟨0, 4294967295⟩, ⟨0, 4294967295⟩, ⟨0, 4294967295⟩, ⟨0, 4294967295⟩, ⟨0, 4294967295⟩, ⟨0, 4294967295⟩, ⟨0, 4294967295⟩, ⟨0, 4294967295⟩, ⟨0, 4294967295⟩]
def t93 : VC :=
 (.ite (.lt (.var 5) (.var 11))
  (.fin (.e (.lit (-1)) .nil))
  (.ite (.lt (.var 11) (.var 5))
   (.fin (.e (.lit 1) .nil))
   (.ite (.lt (.var 4) (.var 10))
    (.fin (.e (.lit (-1)) .nil))
    (.ite (.lt (.var 10) (.var 4))
     (.fin (.e (.lit 1) .nil))
     (.ite (.lt (.var 3) (.var 9))
      (.fin (.e (.lit (-1)) .nil))
      (.ite (.lt (.var 9) (.var 3))
       (.fin (.e (.lit 1) .nil))
       (.ite (.lt (.var 2) (.var 8))
        (.fin (.e (.lit (-1)) .nil))
        (.ite (.lt (.var 8) (.var 2))
         (.fin (.e (.lit 1) .nil))
         (.ite (.lt (.var 1) (.var 7))
          (.fin (.e (.lit (-1)) .nil))
          (.ite (.lt (.var 7) (.var 1))
           (.fin (.e (.lit 1) .nil))
           (.ite (.lt (.var 0) (.var 6))
            (.fin (.e (.lit (-1)) .nil))
            (.ite (.lt (.var 6) (.var 0))
             (.fin (.e (.lit 1) .nil))
             (.fin (.e (.lit 0) .nil))))))))))))))
theorem v93 : vcOfI ⟨c93, []⟩ iv93 250 Try.f93 s93 = t93 := by kernel_rfl
set_option linter.unusedVariables false in
def p93 (T : Tab) (I : Nat → List Int → List Int → Prop) (M : Nat → List Int → List Int → Nat) (pre : Nat → List Int → Prop) (post : List Int → Prop) (v0 v1 v2 v3 v4 v5 v6 v7 v8 v9 v10 v11 : Int) : Prop :=
 ((decide ((v5 : Int) < v11) = true →
  post [(-1)]) ∧ (decide ((v5 : Int) < v11) = false →
  ((decide ((v11 : Int) < v5) = true →
   post [1]) ∧ (decide ((v11 : Int) < v5) = false →
   ((decide ((v4 : Int) < v10) = true →
    post [(-1)]) ∧ (decide ((v4 : Int) < v10) = false →
    ((decide ((v10 : Int) < v4) = true →
     post [1]) ∧ (decide ((v10 : Int) < v4) = false →
     ((decide ((v3 : Int) < v9) = true →
      post [(-1)]) ∧ (decide ((v3 : Int) < v9) = false →
      ((decide ((v9 : Int) < v3) = true →
       post [1]) ∧ (decide ((v9 : Int) < v3) = false →
       ((decide ((v2 : Int) < v8) = true →
        post [(-1)]) ∧ (decide ((v2 : Int) < v8) = false →
        ((decide ((v8 : Int) < v2) = true →
         post [1]) ∧ (decide ((v8 : Int) < v2) = false →
         ((decide ((v1 : Int) < v7) = true →
          post [(-1)]) ∧ (decide ((v1 : Int) < v7) = false →
          ((decide ((v7 : Int) < v1) = true →
           post [1]) ∧ (decide ((v7 : Int) < v1) = false →
           ((decide ((v0 : Int) < v6) = true →
            post [(-1)]) ∧ (decide ((v0 : Int) < v6) = false →
            ((decide ((v6 : Int) < v0) = true →
             post [1]) ∧ (decide ((v6 : Int) < v0) = false →
             post [0]))))))))))))))))))))))))
theorem q93 (T : Tab) (I : Nat → List Int → List Int → Prop) (M : Nat → List Int → List Int → Nat) (pre : Nat → List Int → Prop) (post : List Int → Prop) (v0 v1 v2 v3 v4 v5 v6 v7 v8 v9 v10 v11 : Int) : t93.plain T (presL pre I M) post ⟨[v0, v1, v2, v3, v4, v5, v6, v7, v8, v9, v10, v11], []⟩ = p93 T I M pre post v0 v1 v2 v3 v4 v5 v6 v7 v8 v9 v10 v11 := by kernel_rfl
theorem k93 (T : Tab) (I : Nat → List Int → List Int → Prop) (M : Nat → List Int → List Int → Nat) (pre : Nat → List Int → Prop) (hs : SubSig T c93.sigs) (ht : Tot pre c93.sigs) (hg : T.sig 93 = some s93) (hC : CtAll Try.prog T.fns (pres pre) c93.sigs)
    (h : ∀ (v0 v1 v2 v3 v4 v5 v6 v7 v8 v9 v10 v11 : Int), (0 ≤ v0 ∧ v0 ≤ 4294967295) → (0 ≤ v1 ∧ v1 ≤ 4294967295) → (0 ≤ v2 ∧ v2 ≤ 4294967295) → (0 ≤ v3 ∧ v3 ≤ 4294967295) → (0 ≤ v4 ∧ v4 ≤ 4294967295) → (0 ≤ v5 ∧ v5 ≤ 4294967295) → (0 ≤ v6 ∧ v6 ≤ 4294967295) → (0 ≤ v7 ∧ v7 ≤ 4294967295) → (0 ≤ v8 ∧ v8 ≤ 4294967295) → (0 ≤ v9 ∧ v9 ≤ 4294967295) → (0 ≤ v10 ∧ v10 ≤ 4294967295) → (0 ≤ v11 ∧ v11 ≤ 4294967295) → pre 93 [v0, v1, v2, v3, v4, v5, v6, v7, v8, v9, v10, v11] → p93 T I M pre (fun ys => ys = T.fn 93 [v0, v1, v2, v3, v4, v5, v6, v7, v8, v9, v10, v11]) v0 v1 v2 v3 v4 v5 v6 v7 v8 v9 v10 v11) : CT Try.prog T.fns (pres pre) 93 s93 :=
  T.ctq (F := ⟨c93, []⟩) (fuel := 250) v93 Try.checked.mixed hs ht hg hC Try.func93 I M (fun _ h _ => h) fun xs hx hp => by
    match xs, hx, hp with
    | [v0, v1, v2, v3, v4, v5, v6, v7, v8, v9, v10, v11], hx, hp => rw [q93]; exact h v0 v1 v2 v3 v4 v5 v6 v7 v8 v9 v10 v11 hx.1 hx.2.1 hx.2.2.1 hx.2.2.2.1 hx.2.2.2.2.1 hx.2.2.2.2.2.1 hx.2.2.2.2.2.2.1 hx.2.2.2.2.2.2.2.1 hx.2.2.2.2.2.2.2.2.1 hx.2.2.2.2.2.2.2.2.2.1 hx.2.2.2.2.2.2.2.2.2.2.1 hx.2.2.2.2.2.2.2.2.2.2.2.1 hp

/-- loop.example/g01242/spec.l01Mul -/
noncomputable def c42 : Cfg := ⟨Try.prog, [(70, s70)]⟩
def iv42 : List Iv := [⟨0, 1⟩, ⟨0, 4294967295⟩, ⟨0, 4294967295⟩, ⟨0, 4294967295⟩, ⟨0, 4294967295⟩, ⟨0, 4294967295⟩, ⟨0, 4294967295⟩, ⟨0, 1⟩, ⟨0, 4294967295⟩, ⟨0, 4294967295⟩, ⟨0, 4294967295⟩, ⟨0, 4294967295⟩, ⟨0, 4294967295⟩, ⟨0, 4294967295⟩]
def t42 : VC :=
 (.bind (.mul (.var 1) (.var 8))
 (.bind (.wrap .u32 (.var 14))
 (.bind (.div (.var 14) (.lit 4294967296))
 (.bind (.add (.mul (.var 1) (.var 9)) (.var 16))
 (.bind (.wrap .u32 (.var 17))
 (.bind (.div (.var 17) (.lit 4294967296))
 (.bind (.add (.mul (.var 1) (.var 10)) (.var 19))
 (.bind (.wrap .u32 (.var 20))
 (.bind (.div (.var 20) (.lit 4294967296))
 (.bind (.add (.mul (.var 1) (.var 11)) (.var 22))
 (.bind (.wrap .u32 (.var 23))
 (.bind (.div (.var 23) (.lit 4294967296))
 (.bind (.add (.mul (.var 1) (.var 12)) (.var 25))
 (.bind (.wrap .u32 (.var 26))
 (.bind (.div (.var 26) (.lit 4294967296))
 (.bind (.add (.mul (.var 1) (.var 13)) (.var 28))
 (.bind (.wrap .u32 (.var 29))
 (.bind (.div (.var 29) (.lit 4294967296))
 (.bind (.add (.mul (.var 2) (.var 8)) (.var 18))
 (.bind (.wrap .u32 (.var 32))
 (.bind (.div (.var 32) (.lit 4294967296))
 (.bind (.add (.add (.mul (.var 2) (.var 9)) (.var 21)) (.var 34))
 (.bind (.wrap .u32 (.var 35))
 (.bind (.div (.var 35) (.lit 4294967296))
 (.bind (.add (.add (.mul (.var 2) (.var 10)) (.var 24)) (.var 37))
 (.bind (.wrap .u32 (.var 38))
 (.bind (.div (.var 38) (.lit 4294967296))
 (.bind (.add (.add (.mul (.var 2) (.var 11)) (.var 27)) (.var 40))
 (.bind (.wrap .u32 (.var 41))
 (.bind (.div (.var 41) (.lit 4294967296))
 (.bind (.add (.add (.mul (.var 2) (.var 12)) (.var 30)) (.var 43))
 (.bind (.wrap .u32 (.var 44))
 (.bind (.div (.var 44) (.lit 4294967296))
 (.bind (.add (.add (.mul (.var 2) (.var 13)) (.var 31)) (.var 46))
 (.bind (.wrap .u32 (.var 47))
 (.bind (.div (.var 47) (.lit 4294967296))
 (.bind (.add (.mul (.var 3) (.var 8)) (.var 36))
 (.bind (.wrap .u32 (.var 50))
 (.bind (.div (.var 50) (.lit 4294967296))
 (.bind (.add (.add (.mul (.var 3) (.var 9)) (.var 39)) (.var 52))
 (.bind (.wrap .u32 (.var 53))
 (.bind (.div (.var 53) (.lit 4294967296))
 (.bind (.add (.add (.mul (.var 3) (.var 10)) (.var 42)) (.var 55))
 (.bind (.wrap .u32 (.var 56))
 (.bind (.div (.var 56) (.lit 4294967296))
 (.bind (.add (.add (.mul (.var 3) (.var 11)) (.var 45)) (.var 58))
 (.bind (.wrap .u32 (.var 59))
 (.bind (.div (.var 59) (.lit 4294967296))
 (.bind (.add (.add (.mul (.var 3) (.var 12)) (.var 48)) (.var 61))
 (.bind (.wrap .u32 (.var 62))
 (.bind (.div (.var 62) (.lit 4294967296))
 (.bind (.add (.add (.mul (.var 3) (.var 13)) (.var 49)) (.var 64))
 (.bind (.wrap .u32 (.var 65))
 (.bind (.div (.var 65) (.lit 4294967296))
 (.bind (.add (.mul (.var 4) (.var 8)) (.var 54))
 (.bind (.wrap .u32 (.var 68))
 (.bind (.div (.var 68) (.lit 4294967296))
 (.bind (.add (.add (.mul (.var 4) (.var 9)) (.var 57)) (.var 70))
 (.bind (.wrap .u32 (.var 71))
 (.bind (.div (.var 71) (.lit 4294967296))
 (.bind (.add (.add (.mul (.var 4) (.var 10)) (.var 60)) (.var 73))
 (.bind (.wrap .u32 (.var 74))
 (.bind (.div (.var 74) (.lit 4294967296))
 (.bind (.add (.add (.mul (.var 4) (.var 11)) (.var 63)) (.var 76))
 (.bind (.wrap .u32 (.var 77))
 (.bind (.div (.var 77) (.lit 4294967296))
 (.bind (.add (.add (.mul (.var 4) (.var 12)) (.var 66)) (.var 79))
 (.bind (.wrap .u32 (.var 80))
 (.bind (.div (.var 80) (.lit 4294967296))
 (.bind (.add (.add (.mul (.var 4) (.var 13)) (.var 67)) (.var 82))
 (.bind (.wrap .u32 (.var 83))
 (.bind (.div (.var 83) (.lit 4294967296))
 (.bind (.add (.mul (.var 5) (.var 8)) (.var 72))
 (.bind (.wrap .u32 (.var 86))
 (.bind (.div (.var 86) (.lit 4294967296))
 (.bind (.add (.add (.mul (.var 5) (.var 9)) (.var 75)) (.var 88))
 (.bind (.wrap .u32 (.var 89))
 (.bind (.div (.var 89) (.lit 4294967296))
 (.bind (.add (.add (.mul (.var 5) (.var 10)) (.var 78)) (.var 91))
 (.bind (.wrap .u32 (.var 92))
 (.bind (.div (.var 92) (.lit 4294967296))
 (.bind (.add (.add (.mul (.var 5) (.var 11)) (.var 81)) (.var 94))
 (.bind (.wrap .u32 (.var 95))
 (.bind (.div (.var 95) (.lit 4294967296))
 (.bind (.add (.add (.mul (.var 5) (.var 12)) (.var 84)) (.var 97))
 (.bind (.wrap .u32 (.var 98))
 (.bind (.div (.var 98) (.lit 4294967296))
 (.bind (.add (.add (.mul (.var 5) (.var 13)) (.var 85)) (.var 100))
 (.bind (.wrap .u32 (.var 101))
 (.bind (.div (.var 101) (.lit 4294967296))
 (.bind (.add (.mul (.var 6) (.var 8)) (.var 90))
 (.bind (.wrap .u32 (.var 104))
 (.bind (.div (.var 104) (.lit 4294967296))
 (.bind (.add (.add (.mul (.var 6) (.var 9)) (.var 93)) (.var 106))
 (.bind (.wrap .u32 (.var 107))
 (.bind (.div (.var 107) (.lit 4294967296))
 (.bind (.add (.add (.mul (.var 6) (.var 10)) (.var 96)) (.var 109))
 (.bind (.wrap .u32 (.var 110))
 (.bind (.div (.var 110) (.lit 4294967296))
 (.bind (.add (.add (.mul (.var 6) (.var 11)) (.var 99)) (.var 112))
 (.bind (.wrap .u32 (.var 113))
 (.bind (.div (.var 113) (.lit 4294967296))
 (.bind (.add (.add (.mul (.var 6) (.var 12)) (.var 102)) (.var 115))
 (.bind (.wrap .u32 (.var 116))
 (.bind (.div (.var 116) (.lit 4294967296))
 (.bind (.add (.add (.mul (.var 6) (.var 13)) (.var 103)) (.var 118))
 (.bind (.wrap .u32 (.var 119))
 (.bind (.div (.var 119) (.lit 4294967296))
 (.ite (.not (.eq (.var 108) (.lit 0)))
  (.fin (.e (.lit 0) (.e (.lit 0) (.e (.lit 0) (.e (.lit 0) (.e (.lit 0) (.e (.lit 0) (.e (.lit 0) (.e (.lit 3) .nil)))))))))
  (.ite (.not (.eq (.var 111) (.lit 0)))
   (.fin (.e (.lit 0) (.e (.lit 0) (.e (.lit 0) (.e (.lit 0) (.e (.lit 0) (.e (.lit 0) (.e (.lit 0) (.e (.lit 3) .nil)))))))))
   (.ite (.not (.eq (.var 114) (.lit 0)))
    (.fin (.e (.lit 0) (.e (.lit 0) (.e (.lit 0) (.e (.lit 0) (.e (.lit 0) (.e (.lit 0) (.e (.lit 0) (.e (.lit 3) .nil)))))))))
    (.ite (.not (.eq (.var 117) (.lit 0)))
     (.fin (.e (.lit 0) (.e (.lit 0) (.e (.lit 0) (.e (.lit 0) (.e (.lit 0) (.e (.lit 0) (.e (.lit 0) (.e (.lit 3) .nil)))))))))
     (.ite (.not (.eq (.var 120) (.lit 0)))
      (.fin (.e (.lit 0) (.e (.lit 0) (.e (.lit 0) (.e (.lit 0) (.e (.lit 0) (.e (.lit 0) (.e (.lit 0) (.e (.lit 3) .nil)))))))))
      (.ite (.not (.eq (.var 121) (.lit 0)))
       (.fin (.e (.lit 0) (.e (.lit 0) (.e (.lit 0) (.e (.lit 0) (.e (.lit 0) (.e (.lit 0) (.e (.lit 0) (.e (.lit 3) .nil)))))))))
       (.call 70 (.e (.ite (.not (.beq (.eq (.var 0) (.lit 1)) (.eq (.var 7) (.lit 1)))) (.lit 1) (.lit 0)) (.e (.var 15) (.e (.var 33) (.e (.var 51) (.e (.var 69) (.e (.var 87) (.e (.var 105) .nil))))))) 7
       (.fin (.e (.var 122) (.e (.var 123) (.e (.var 124) (.e (.var 125) (.e (.var 126) (.e (.var 127) (.e (.var 128) (.e (.lit 0) .nil))))))))))))))))))))))))))))))))))))))))))))))))))))))))))))))))))))))))))))))))))))))))))))))))))))))))))))))))))))))))))))
theorem v42 : vcOfI ⟨c42, []⟩ iv42 250 Try.f42 s42 = t42 := by kernel_rfl
set_option linter.unusedVariables false in
def p42 (T : Tab) (I : Nat → List Int → List Int → Prop) (M : Nat → List Int → List Int → Nat) (pre : Nat → List Int → Prop) (post : List Int → Prop) (v0 v1 v2 v3 v4 v5 v6 v7 v8 v9 v10 v11 v12 v13 : Int) : Prop :=
 ∀ v14 : Int, v14 = (v1 * v8) →
 ∀ v15 : Int, v15 = (IntKind.wrap .u32 v14) →
 ∀ v16 : Int, v16 = (v14 / 4294967296) →
 ∀ v17 : Int, v17 = ((v1 * v9) + v16) →
 ∀ v18 : Int, v18 = (IntKind.wrap .u32 v17) →
 ∀ v19 : Int, v19 = (v17 / 4294967296) →
 ∀ v20 : Int, v20 = ((v1 * v10) + v19) →
 ∀ v21 : Int, v21 = (IntKind.wrap .u32 v20) →
 ∀ v22 : Int, v22 = (v20 / 4294967296) →
 ∀ v23 : Int, v23 = ((v1 * v11) + v22) →
 ∀ v24 : Int, v24 = (IntKind.wrap .u32 v23) →
 ∀ v25 : Int, v25 = (v23 / 4294967296) →
 ∀ v26 : Int, v26 = ((v1 * v12) + v25) →
 ∀ v27 : Int, v27 = (IntKind.wrap .u32 v26) →
 ∀ v28 : Int, v28 = (v26 / 4294967296) →
 ∀ v29 : Int, v29 = ((v1 * v13) + v28) →
 ∀ v30 : Int, v30 = (IntKind.wrap .u32 v29) →
 ∀ v31 : Int, v31 = (v29 / 4294967296) →
 ∀ v32 : Int, v32 = ((v2 * v8) + v18) →
 ∀ v33 : Int, v33 = (IntKind.wrap .u32 v32) →
 ∀ v34 : Int, v34 = (v32 / 4294967296) →
 ∀ v35 : Int, v35 = (((v2 * v9) + v21) + v34) →
 ∀ v36 : Int, v36 = (IntKind.wrap .u32 v35) →
 ∀ v37 : Int, v37 = (v35 / 4294967296) →
 ∀ v38 : Int, v38 = (((v2 * v10) + v24) + v37) →
 ∀ v39 : Int, v39 = (IntKind.wrap .u32 v38) →
 ∀ v40 : Int, v40 = (v38 / 4294967296) →
 ∀ v41 : Int, v41 = (((v2 * v11) + v27) + v40) →
 ∀ v42 : Int, v42 = (IntKind.wrap .u32 v41) →
 ∀ v43 : Int, v43 = (v41 / 4294967296) →
 ∀ v44 : Int, v44 = (((v2 * v12) + v30) + v43) →
 ∀ v45 : Int, v45 = (IntKind.wrap .u32 v44) →
 ∀ v46 : Int, v46 = (v44 / 4294967296) →
 ∀ v47 : Int, v47 = (((v2 * v13) + v31) + v46) →
 ∀ v48 : Int, v48 = (IntKind.wrap .u32 v47) →
 ∀ v49 : Int, v49 = (v47 / 4294967296) →
 ∀ v50 : Int, v50 = ((v3 * v8) + v36) →
 ∀ v51 : Int, v51 = (IntKind.wrap .u32 v50) →
 ∀ v52 : Int, v52 = (v50 / 4294967296) →
 ∀ v53 : Int, v53 = (((v3 * v9) + v39) + v52) →
 ∀ v54 : Int, v54 = (IntKind.wrap .u32 v53) →
 ∀ v55 : Int, v55 = (v53 / 4294967296) →
 ∀ v56 : Int, v56 = (((v3 * v10) + v42) + v55) →
 ∀ v57 : Int, v57 = (IntKind.wrap .u32 v56) →
 ∀ v58 : Int, v58 = (v56 / 4294967296) →
 ∀ v59 : Int, v59 = (((v3 * v11) + v45) + v58) →
 ∀ v60 : Int, v60 = (IntKind.wrap .u32 v59) →
 ∀ v61 : Int, v61 = (v59 / 4294967296) →
 ∀ v62 : Int, v62 = (((v3 * v12) + v48) + v61) →
 ∀ v63 : Int, v63 = (IntKind.wrap .u32 v62) →
 ∀ v64 : Int, v64 = (v62 / 4294967296) →
 ∀ v65 : Int, v65 = (((v3 * v13) + v49) + v64) →
 ∀ v66 : Int, v66 = (IntKind.wrap .u32 v65) →
 ∀ v67 : Int, v67 = (v65 / 4294967296) →
 ∀ v68 : Int, v68 = ((v4 * v8) + v54) →
 ∀ v69 : Int, v69 = (IntKind.wrap .u32 v68) →
 ∀ v70 : Int, v70 = (v68 / 4294967296) →
 ∀ v71 : Int, v71 = (((v4 * v9) + v57) + v70) →
 ∀ v72 : Int, v72 = (IntKind.wrap .u32 v71) →
 ∀ v73 : Int, v73 = (v71 / 4294967296) →
 ∀ v74 : Int, v74 = (((v4 * v10) + v60) + v73) →
 ∀ v75 : Int, v75 = (IntKind.wrap .u32 v74) →
 ∀ v76 : Int, v76 = (v74 / 4294967296) →
 ∀ v77 : Int, v77 = (((v4 * v11) + v63) + v76) →
 ∀ v78 : Int, v78 = (IntKind.wrap .u32 v77) →
 ∀ v79 : Int, v79 = (v77 / 4294967296) →
 ∀ v80 : Int, v80 = (((v4 * v12) + v66) + v79) →
 ∀ v81 : Int, v81 = (IntKind.wrap .u32 v80) →
 ∀ v82 : Int, v82 = (v80 / 4294967296) →
 ∀ v83 : Int, v83 = (((v4 * v13) + v67) + v82) →
 ∀ v84 : Int, v84 = (IntKind.wrap .u32 v83) →
 ∀ v85 : Int, v85 = (v83 / 4294967296) →
 ∀ v86 : Int, v86 = ((v5 * v8) + v72) →
 ∀ v87 : Int, v87 = (IntKind.wrap .u32 v86) →
 ∀ v88 : Int, v88 = (v86 / 4294967296) →
 ∀ v89 : Int, v89 = (((v5 * v9) + v75) + v88) →
 ∀ v90 : Int, v90 = (IntKind.wrap .u32 v89) →
 ∀ v91 : Int, v91 = (v89 / 4294967296) →
 ∀ v92 : Int, v92 = (((v5 * v10) + v78) + v91) →
 ∀ v93 : Int, v93 = (IntKind.wrap .u32 v92) →
 ∀ v94 : Int, v94 = (v92 / 4294967296) →
 ∀ v95 : Int, v95 = (((v5 * v11) + v81) + v94) →
 ∀ v96 : Int, v96 = (IntKind.wrap .u32 v95) →
 ∀ v97 : Int, v97 = (v95 / 4294967296) →
 ∀ v98 : Int, v98 = (((v5 * v12) + v84) + v97) →
 ∀ v99 : Int, v99 = (IntKind.wrap .u32 v98) →
 ∀ v100 : Int, v100 = (v98 / 4294967296) →
 ∀ v101 : Int, v101 = (((v5 * v13) + v85) + v100) →
 ∀ v102 : Int, v102 = (IntKind.wrap .u32 v101) →
 ∀ v103 : Int, v103 = (v101 / 4294967296) →
 ∀ v104 : Int, v104 = ((v6 * v8) + v90) →
 ∀ v105 : Int, v105 = (IntKind.wrap .u32 v104) →
 ∀ v106 : Int, v106 = (v104 / 4294967296) →
 ∀ v107 : Int, v107 = (((v6 * v9) + v93) + v106) →
 ∀ v108 : Int, v108 = (IntKind.wrap .u32 v107) →
 ∀ v109 : Int, v109 = (v107 / 4294967296) →
 ∀ v110 : Int, v110 = (((v6 * v10) + v96) + v109) →
 ∀ v111 : Int, v111 = (IntKind.wrap .u32 v110) →
 ∀ v112 : Int, v112 = (v110 / 4294967296) →
 ∀ v113 : Int, v113 = (((v6 * v11) + v99) + v112) →
 ∀ v114 : Int, v114 = (IntKind.wrap .u32 v113) →
 ∀ v115 : Int, v115 = (v113 / 4294967296) →
 ∀ v116 : Int, v116 = (((v6 * v12) + v102) + v115) →
 ∀ v117 : Int, v117 = (IntKind.wrap .u32 v116) →
 ∀ v118 : Int, v118 = (v116 / 4294967296) →
 ∀ v119 : Int, v119 = (((v6 * v13) + v103) + v118) →
 ∀ v120 : Int, v120 = (IntKind.wrap .u32 v119) →
 ∀ v121 : Int, v121 = (v119 / 4294967296) →
 (((!decide ((v108 : Int) = 0)) = true →
  post [0, 0, 0, 0, 0, 0, 0, 3]) ∧ ((!decide ((v108 : Int) = 0)) = false →
  (((!decide ((v111 : Int) = 0)) = true →
   post [0, 0, 0, 0, 0, 0, 0, 3]) ∧ ((!decide ((v111 : Int) = 0)) = false →
   (((!decide ((v114 : Int) = 0)) = true →
    post [0, 0, 0, 0, 0, 0, 0, 3]) ∧ ((!decide ((v114 : Int) = 0)) = false →
    (((!decide ((v117 : Int) = 0)) = true →
     post [0, 0, 0, 0, 0, 0, 0, 3]) ∧ ((!decide ((v117 : Int) = 0)) = false →
     (((!decide ((v120 : Int) = 0)) = true →
      post [0, 0, 0, 0, 0, 0, 0, 3]) ∧ ((!decide ((v120 : Int) = 0)) = false →
      (((!decide ((v121 : Int) = 0)) = true →
       post [0, 0, 0, 0, 0, 0, 0, 3]) ∧ ((!decide ((v121 : Int) = 0)) = false →
       ∀ v122 v123 v124 v125 v126 v127 v128 : Int, [v122, v123, v124, v125, v126, v127, v128] = T.out 70 7 [(if (!(decide ((v0 : Int) = 1) == decide ((v7 : Int) = 1))) = true then 1 else 0), v15, v33, v51, v69, v87, v105] →
       post [v122, v123, v124, v125, v126, v127, v128, 0]))))))))))))
theorem q42 (T : Tab) (I : Nat → List Int → List Int → Prop) (M : Nat → List Int → List Int → Nat) (pre : Nat → List Int → Prop) (post : List Int → Prop) (v0 v1 v2 v3 v4 v5 v6 v7 v8 v9 v10 v11 v12 v13 : Int) : t42.plain T (presL pre I M) post ⟨[v0, v1, v2, v3, v4, v5, v6, v7, v8, v9, v10, v11, v12, v13], []⟩ = p42 T I M pre post v0 v1 v2 v3 v4 v5 v6 v7 v8 v9 v10 v11 v12 v13 := by kernel_rfl
theorem k42 (T : Tab) (I : Nat → List Int → List Int → Prop) (M : Nat → List Int → List Int → Nat) (pre : Nat → List Int → Prop) (hs : SubSig T c42.sigs) (ht : Tot pre c42.sigs) (hg : T.sig 42 = some s42) (hC : CtAll Try.prog T.fns (pres pre) c42.sigs)
    (h : ∀ (v0 v1 v2 v3 v4 v5 v6 v7 v8 v9 v10 v11 v12 v13 : Int), (0 ≤ v0 ∧ v0 ≤ 1) → (0 ≤ v1 ∧ v1 ≤ 4294967295) → (0 ≤ v2 ∧ v2 ≤ 4294967295) → (0 ≤ v3 ∧ v3 ≤ 4294967295) → (0 ≤ v4 ∧ v4 ≤ 4294967295) → (0 ≤ v5 ∧ v5 ≤ 4294967295) → (0 ≤ v6 ∧ v6 ≤ 4294967295) → (0 ≤ v7 ∧ v7 ≤ 1) → (0 ≤ v8 ∧ v8 ≤ 4294967295) → (0 ≤ v9 ∧ v9 ≤ 4294967295) → (0 ≤ v10 ∧ v10 ≤ 4294967295) → (0 ≤ v11 ∧ v11 ≤ 4294967295) → (0 ≤ v12 ∧ v12 ≤ 4294967295) → (0 ≤ v13 ∧ v13 ≤ 4294967295) → pre 42 [v0, v1, v2, v3, v4, v5, v6, v7, v8, v9, v10, v11, v12, v13] → p42 T I M pre (fun ys => ys = T.fn 42 [v0, v1, v2, v3, v4, v5, v6, v7, v8, v9, v10, v11, v12, v13]) v0 v1 v2 v3 v4 v5 v6 v7 v8 v9 v10 v11 v12 v13) : CT Try.prog T.fns (pres pre) 42 s42 :=
  T.ctq (F := ⟨c42, []⟩) (fuel := 250) v42 Try.checked.mixed hs ht hg hC Try.func42 I M (fun _ h _ => h) fun xs hx hp => by
    match xs, hx, hp with
    | [v0, v1, v2, v3, v4, v5, v6, v7, v8, v9, v10, v11, v12, v13], hx, hp => rw [q42]; exact h v0 v1 v2 v3 v4 v5 v6 v7 v8 v9 v10 v11 v12 v13 hx.1 hx.2.1 hx.2.2.1 hx.2.2.2.1 hx.2.2.2.2.1 hx.2.2.2.2.2.1 hx.2.2.2.2.2.2.1 hx.2.2.2.2.2.2.2.1 hx.2.2.2.2.2.2.2.2.1 hx.2.2.2.2.2.2.2.2.2.1 hx.2.2.2.2.2.2.2.2.2.2.1 hx.2.2.2.2.2.2.2.2.2.2.2.1 hx.2.2.2.2.2.2.2.2.2.2.2.2.1 hx.2.2.2.2.2.2.2.2.2.2.2.2.2.1 hp

/-- loop.example/g01242/spec.MulWides -/
noncomputable def c15 : Cfg := ⟨Try.prog, [(41, s41), (42, s42)]⟩
def iv15 : List Iv := [⟨0, 1⟩, ⟨0, 4294967295⟩, ⟨0, 4294967295⟩, ⟨0, 4294967295⟩, ⟨0, 4294967295⟩, ⟨0, 4294967295⟩, ⟨0, 4294967295⟩, ⟨0, 1⟩, ⟨0, 4294967295⟩, ⟨0, 4294967295⟩, ⟨0, 4294967295⟩, ⟨0, 4294967295⟩, ⟨0, 4294967295⟩, ⟨0, 4294967295⟩]
def t15 : VC :=
 (.call 41 (.e (.var 0) (.e (.var 1) (.e (.var 2) (.e (.var 3) (.e (.var 4) (.e (.var 5) (.e (.var 6) .nil))))))) 1
 (.ite (.eq (.var 14) (.lit 1))
  (.call 41 (.e (.var 7) (.e (.var 8) (.e (.var 9) (.e (.var 10) (.e (.var 11) (.e (.var 12) (.e (.var 13) .nil))))))) 1
  (.ite (.not (.eq (.var 15) (.lit 1)))
   (.fin (.e (.lit 0) (.e (.lit 0) (.e (.lit 0) (.e (.lit 0) (.e (.lit 0) (.e (.lit 0) (.e (.lit 0) (.e (.lit 1) .nil)))))))))
   (.call 42 (.e (.var 0) (.e (.var 1) (.e (.var 2) (.e (.var 3) (.e (.var 4) (.e (.var 5) (.e (.var 6) (.e (.var 7) (.e (.var 8) (.e (.var 9) (.e (.var 10) (.e (.var 11) (.e (.var 12) (.e (.var 13) .nil)))))))))))))) 8
   (.fin (.e (.var 16) (.e (.var 17) (.e (.var 18) (.e (.var 19) (.e (.var 20) (.e (.var 21) (.e (.var 22) (.e (.var 23) .nil))))))))))))
  (.fin (.e (.lit 0) (.e (.lit 0) (.e (.lit 0) (.e (.lit 0) (.e (.lit 0) (.e (.lit 0) (.e (.lit 0) (.e (.lit 1) .nil)))))))))))
theorem v15 : vcOfI ⟨c15, []⟩ iv15 250 Try.f15 s15 = t15 := by kernel_rfl
set_option linter.unusedVariables false in
def p15 (T : Tab) (I : Nat → List Int → List Int → Prop) (M : Nat → List Int → List Int → Nat) (pre : Nat → List Int → Prop) (post : List Int → Prop) (v0 v1 v2 v3 v4 v5 v6 v7 v8 v9 v10 v11 v12 v13 : Int) : Prop :=
 ∀ v14 : Int, [v14] = T.out 41 1 [v0, v1, v2, v3, v4, v5, v6] →
 ((decide ((v14 : Int) = 1) = true →
  ∀ v15 : Int, [v15] = T.out 41 1 [v7, v8, v9, v10, v11, v12, v13] →
  (((!decide ((v15 : Int) = 1)) = true →
   post [0, 0, 0, 0, 0, 0, 0, 1]) ∧ ((!decide ((v15 : Int) = 1)) = false →
   ∀ v16 v17 v18 v19 v20 v21 v22 v23 : Int, [v16, v17, v18, v19, v20, v21, v22, v23] = T.out 42 8 [v0, v1, v2, v3, v4, v5, v6, v7, v8, v9, v10, v11, v12, v13] →
   post [v16, v17, v18, v19, v20, v21, v22, v23]))) ∧ (decide ((v14 : Int) = 1) = false →
  post [0, 0, 0, 0, 0, 0, 0, 1]))
theorem q15 (T : Tab) (I : Nat → List Int → List Int → Prop) (M : Nat → List Int → List Int → Nat) (pre : Nat → List Int → Prop) (post : List Int → Prop) (v0 v1 v2 v3 v4 v5 v6 v7 v8 v9 v10 v11 v12 v13 : Int) : t15.plain T (presL pre I M) post ⟨[v0, v1, v2, v3, v4, v5, v6, v7, v8, v9, v10, v11, v12, v13], []⟩ = p15 T I M pre post v0 v1 v2 v3 v4 v5 v6 v7 v8 v9 v10 v11 v12 v13 := by kernel_rfl
theorem k15 (T : Tab) (I : Nat → List Int → List Int → Prop) (M : Nat → List Int → List Int → Nat) (pre : Nat → List Int → Prop) (hs : SubSig T c15.sigs) (ht : Tot pre c15.sigs) (hg : T.sig 15 = some s15) (hC : CtAll Try.prog T.fns (pres pre) c15.sigs)
    (h : ∀ (v0 v1 v2 v3 v4 v5 v6 v7 v8 v9 v10 v11 v12 v13 : Int), (0 ≤ v0 ∧ v0 ≤ 1) → (0 ≤ v1 ∧ v1 ≤ 4294967295) → (0 ≤ v2 ∧ v2 ≤ 4294967295) → (0 ≤ v3 ∧ v3 ≤ 4294967295) → (0 ≤ v4 ∧ v4 ≤ 4294967295) → (0 ≤ v5 ∧ v5 ≤ 4294967295) → (0 ≤ v6 ∧ v6 ≤ 4294967295) → (0 ≤ v7 ∧ v7 ≤ 1) → (0 ≤ v8 ∧ v8 ≤ 4294967295) → (0 ≤ v9 ∧ v9 ≤ 4294967295) → (0 ≤ v10 ∧ v10 ≤ 4294967295) → (0 ≤ v11 ∧ v11 ≤ 4294967295) → (0 ≤ v12 ∧ v12 ≤ 4294967295) → (0 ≤ v13 ∧ v13 ≤ 4294967295) → pre 15 [v0, v1, v2, v3, v4, v5, v6, v7, v8, v9, v10, v11, v12, v13] → p15 T I M pre (fun ys => ys = T.fn 15 [v0, v1, v2, v3, v4, v5, v6, v7, v8, v9, v10, v11, v12, v13]) v0 v1 v2 v3 v4 v5 v6 v7 v8 v9 v10 v11 v12 v13) : CT Try.prog T.fns (pres pre) 15 s15 :=
  T.ctq (F := ⟨c15, []⟩) (fuel := 250) v15 Try.checked.mixed hs ht hg hC Try.func15 I M (fun _ h _ => h) fun xs hx hp => by
    match xs, hx, hp with
    | [v0, v1, v2, v3, v4, v5, v6, v7, v8, v9, v10, v11, v12, v13], hx, hp => rw [q15]; exact h v0 v1 v2 v3 v4 v5 v6 v7 v8 v9 v10 v11 v12 v13 hx.1 hx.2.1 hx.2.2.1 hx.2.2.2.1 hx.2.2.2.2.1 hx.2.2.2.2.2.1 hx.2.2.2.2.2.2.1 hx.2.2.2.2.2.2.2.1 hx.2.2.2.2.2.2.2.2.1 hx.2.2.2.2.2.2.2.2.2.1 hx.2.2.2.2.2.2.2.2.2.2.1 hx.2.2.2.2.2.2.2.2.2.2.2.1 hx.2.2.2.2.2.2.2.2.2.2.2.2.1 hx.2.2.2.2.2.2.2.2.2.2.2.2.2.1 hp

/-- loop.example/g01242/spec.ShiftUp -/
noncomputable def c19 : Cfg := ⟨Try.prog, [(41, s41), (48, s48), (49, s49)]⟩
def iv19 : List Iv := [⟨0, 1⟩, ⟨0, 4294967295⟩, ⟨0, 4294967295⟩, ⟨0, 4294967295⟩, ⟨0, 4294967295⟩, ⟨0, 4294967295⟩, ⟨0, 4294967295⟩, ⟨(-9223372036854775808), 9223372036854775807⟩]
def t19 : VC :=
 (.call 41 (.e (.var 0) (.e (.var 1) (.e (.var 2) (.e (.var 3) (.e (.var 4) (.e (.var 5) (.e (.var 6) .nil))))))) 1
 (.ite (.not (.eq (.var 8) (.lit 1)))
  (.fin (.e (.lit 0) (.e (.lit 0) (.e (.lit 0) (.e (.lit 0) (.e (.lit 0) (.e (.lit 0) (.e (.lit 0) (.e (.lit 1) .nil)))))))))
  (.call 48 (.e (.var 7) .nil) 1
  (.ite (.not (.eq (.var 9) (.lit 1)))
   (.fin (.e (.lit 0) (.e (.lit 0) (.e (.lit 0) (.e (.lit 0) (.e (.lit 0) (.e (.lit 0) (.e (.lit 0) (.e (.lit 2) .nil)))))))))
   (.need [(.pre 49 (.e (.var 0) (.e (.var 1) (.e (.var 2) (.e (.var 3) (.e (.var 4) (.e (.var 5) (.e (.var 6) (.e (.var 7) .nil)))))))))]
   (.call 49 (.e (.var 0) (.e (.var 1) (.e (.var 2) (.e (.var 3) (.e (.var 4) (.e (.var 5) (.e (.var 6) (.e (.var 7) .nil)))))))) 8
   (.fin (.e (.var 10) (.e (.var 11) (.e (.var 12) (.e (.var 13) (.e (.var 14) (.e (.var 15) (.e (.var 16) (.e (.var 17) .nil)))))))))))))))
theorem v19 : vcOfI ⟨c19, []⟩ iv19 250 Try.f19 s19 = t19 := by kernel_rfl
set_option linter.unusedVariables false in
def p19 (T : Tab) (I : Nat → List Int → List Int → Prop) (M : Nat → List Int → List Int → Nat) (pre : Nat → List Int → Prop) (post : List Int → Prop) (v0 v1 v2 v3 v4 v5 v6 v7 : Int) : Prop :=
 ∀ v8 : Int, [v8] = T.out 41 1 [v0, v1, v2, v3, v4, v5, v6] →
 (((!decide ((v8 : Int) = 1)) = true →
  post [0, 0, 0, 0, 0, 0, 0, 1]) ∧ ((!decide ((v8 : Int) = 1)) = false →
  ∀ v9 : Int, [v9] = T.out 48 1 [v7] →
  (((!decide ((v9 : Int) = 1)) = true →
   post [0, 0, 0, 0, 0, 0, 0, 2]) ∧ ((!decide ((v9 : Int) = 1)) = false →
   ((pre 49 [v0, v1, v2, v3, v4, v5, v6, v7]) ∧ ((pre 49 [v0, v1, v2, v3, v4, v5, v6, v7]) →
   ∀ v10 v11 v12 v13 v14 v15 v16 v17 : Int, [v10, v11, v12, v13, v14, v15, v16, v17] = T.out 49 8 [v0, v1, v2, v3, v4, v5, v6, v7] →
   post [v10, v11, v12, v13, v14, v15, v16, v17]))))))
theorem q19 (T : Tab) (I : Nat → List Int → List Int → Prop) (M : Nat → List Int → List Int → Nat) (pre : Nat → List Int → Prop) (post : List Int → Prop) (v0 v1 v2 v3 v4 v5 v6 v7 : Int) : t19.plain T (presL pre I M) post ⟨[v0, v1, v2, v3, v4, v5, v6, v7], []⟩ = p19 T I M pre post v0 v1 v2 v3 v4 v5 v6 v7 := by kernel_rfl
theorem k19 (T : Tab) (I : Nat → List Int → List Int → Prop) (M : Nat → List Int → List Int → Nat) (pre : Nat → List Int → Prop) (hs : SubSig T c19.sigs) (ht : Tot pre c19.sigs) (hg : T.sig 19 = some s19) (hC : CtAll Try.prog T.fns (pres pre) c19.sigs)
    (h : ∀ (v0 v1 v2 v3 v4 v5 v6 v7 : Int), (0 ≤ v0 ∧ v0 ≤ 1) → (0 ≤ v1 ∧ v1 ≤ 4294967295) → (0 ≤ v2 ∧ v2 ≤ 4294967295) → (0 ≤ v3 ∧ v3 ≤ 4294967295) → (0 ≤ v4 ∧ v4 ≤ 4294967295) → (0 ≤ v5 ∧ v5 ≤ 4294967295) → (0 ≤ v6 ∧ v6 ≤ 4294967295) → ((-9223372036854775808) ≤ v7 ∧ v7 ≤ 9223372036854775807) → pre 19 [v0, v1, v2, v3, v4, v5, v6, v7] → p19 T I M pre (fun ys => ys = T.fn 19 [v0, v1, v2, v3, v4, v5, v6, v7]) v0 v1 v2 v3 v4 v5 v6 v7) : CT Try.prog T.fns (pres pre) 19 s19 :=
  T.ctq (F := ⟨c19, []⟩) (fuel := 250) v19 Try.checked.mixed hs ht hg hC Try.func19 I M (fun _ h _ => h) fun xs hx hp => by
    match xs, hx, hp with
    | [v0, v1, v2, v3, v4, v5, v6, v7], hx, hp => rw [q19]; exact h v0 v1 v2 v3 v4 v5 v6 v7 hx.1 hx.2.1 hx.2.2.1 hx.2.2.2.1 hx.2.2.2.2.1 hx.2.2.2.2.2.1 hx.2.2.2.2.2.2.1 hx.2.2.2.2.2.2.2.1 hp

/-- loop.example/g01242/spec.ShiftNear -/
noncomputable def c21 : Cfg := ⟨Try.prog, [(41, s41), (48, s48), (53, s53)]⟩
def iv21 : List Iv := [⟨0, 1⟩, ⟨0, 4294967295⟩, ⟨0, 4294967295⟩, ⟨0, 4294967295⟩, ⟨0, 4294967295⟩, ⟨0, 4294967295⟩, ⟨0, 4294967295⟩, ⟨(-9223372036854775808), 9223372036854775807⟩]
def t21 : VC :=
 (.call 41 (.e (.var 0) (.e (.var 1) (.e (.var 2) (.e (.var 3) (.e (.var 4) (.e (.var 5) (.e (.var 6) .nil))))))) 1
 (.ite (.not (.eq (.var 8) (.lit 1)))
  (.fin (.e (.lit 0) (.e (.lit 0) (.e (.lit 0) (.e (.lit 0) (.e (.lit 0) (.e (.lit 0) (.e (.lit 0) (.e (.lit 1) .nil)))))))))
  (.call 48 (.e (.var 7) .nil) 1
  (.ite (.not (.eq (.var 9) (.lit 1)))
   (.fin (.e (.lit 0) (.e (.lit 0) (.e (.lit 0) (.e (.lit 0) (.e (.lit 0) (.e (.lit 0) (.e (.lit 0) (.e (.lit 2) .nil)))))))))
   (.need [(.pre 53 (.e (.var 0) (.e (.var 1) (.e (.var 2) (.e (.var 3) (.e (.var 4) (.e (.var 5) (.e (.var 6) (.e (.var 7) .nil)))))))))]
   (.call 53 (.e (.var 0) (.e (.var 1) (.e (.var 2) (.e (.var 3) (.e (.var 4) (.e (.var 5) (.e (.var 6) (.e (.var 7) .nil)))))))) 7
   (.fin (.e (.var 10) (.e (.var 11) (.e (.var 12) (.e (.var 13) (.e (.var 14) (.e (.var 15) (.e (.var 16) (.e (.lit 0) .nil)))))))))))))))
theorem v21 : vcOfI ⟨c21, []⟩ iv21 250 Try.f21 s21 = t21 := by kernel_rfl
set_option linter.unusedVariables false in
def p21 (T : Tab) (I : Nat → List Int → List Int → Prop) (M : Nat → List Int → List Int → Nat) (pre : Nat → List Int → Prop) (post : List Int → Prop) (v0 v1 v2 v3 v4 v5 v6 v7 : Int) : Prop :=
 ∀ v8 : Int, [v8] = T.out 41 1 [v0, v1, v2, v3, v4, v5, v6] →
 (((!decide ((v8 : Int) = 1)) = true →
  post [0, 0, 0, 0, 0, 0, 0, 1]) ∧ ((!decide ((v8 : Int) = 1)) = false →
  ∀ v9 : Int, [v9] = T.out 48 1 [v7] →
  (((!decide ((v9 : Int) = 1)) = true →
   post [0, 0, 0, 0, 0, 0, 0, 2]) ∧ ((!decide ((v9 : Int) = 1)) = false →
   ((pre 53 [v0, v1, v2, v3, v4, v5, v6, v7]) ∧ ((pre 53 [v0, v1, v2, v3, v4, v5, v6, v7]) →
   ∀ v10 v11 v12 v13 v14 v15 v16 : Int, [v10, v11, v12, v13, v14, v15, v16] = T.out 53 7 [v0, v1, v2, v3, v4, v5, v6, v7] →
   post [v10, v11, v12, v13, v14, v15, v16, 0]))))))
theorem q21 (T : Tab) (I : Nat → List Int → List Int → Prop) (M : Nat → List Int → List Int → Nat) (pre : Nat → List Int → Prop) (post : List Int → Prop) (v0 v1 v2 v3 v4 v5 v6 v7 : Int) : t21.plain T (presL pre I M) post ⟨[v0, v1, v2, v3, v4, v5, v6, v7], []⟩ = p21 T I M pre post v0 v1 v2 v3 v4 v5 v6 v7 := by kernel_rfl
theorem k21 (T : Tab) (I : Nat → List Int → List Int → Prop) (M : Nat → List Int → List Int → Nat) (pre : Nat → List Int → Prop) (hs : SubSig T c21.sigs) (ht : Tot pre c21.sigs) (hg : T.sig 21 = some s21) (hC : CtAll Try.prog T.fns (pres pre) c21.sigs)
    (h : ∀ (v0 v1 v2 v3 v4 v5 v6 v7 : Int), (0 ≤ v0 ∧ v0 ≤ 1) → (0 ≤ v1 ∧ v1 ≤ 4294967295) → (0 ≤ v2 ∧ v2 ≤ 4294967295) → (0 ≤ v3 ∧ v3 ≤ 4294967295) → (0 ≤ v4 ∧ v4 ≤ 4294967295) → (0 ≤ v5 ∧ v5 ≤ 4294967295) → (0 ≤ v6 ∧ v6 ≤ 4294967295) → ((-9223372036854775808) ≤ v7 ∧ v7 ≤ 9223372036854775807) → pre 21 [v0, v1, v2, v3, v4, v5, v6, v7] → p21 T I M pre (fun ys => ys = T.fn 21 [v0, v1, v2, v3, v4, v5, v6, v7]) v0 v1 v2 v3 v4 v5 v6 v7) : CT Try.prog T.fns (pres pre) 21 s21 :=
  T.ctq (F := ⟨c21, []⟩) (fuel := 250) v21 Try.checked.mixed hs ht hg hC Try.func21 I M (fun _ h _ => h) fun xs hx hp => by
    match xs, hx, hp with
    | [v0, v1, v2, v3, v4, v5, v6, v7], hx, hp => rw [q21]; exact h v0 v1 v2 v3 v4 v5 v6 v7 hx.1 hx.2.1 hx.2.2.1 hx.2.2.2.1 hx.2.2.2.2.1 hx.2.2.2.2.2.1 hx.2.2.2.2.2.2.1 hx.2.2.2.2.2.2.2.1 hp

end Go.Proofs.Ytmlmdicdblgcfaa.Sx

namespace Go.Proofs.Ytmlmdicdblgcfaa.Sx
open Go Go.RowKit
/-- loop.example/g01242/spec.PowerWide -/
noncomputable def c29 : Cfg := ⟨Try.prog, [(41, s41), (48, s48), (67, s67), (42, s42)]⟩
def iv29 : List Iv := [⟨0, 1⟩, ⟨0, 4294967295⟩, ⟨0, 4294967295⟩, ⟨0, 4294967295⟩, ⟨0, 4294967295⟩, ⟨0, 4294967295⟩, ⟨0, 4294967295⟩, ⟨(-9223372036854775808), 9223372036854775807⟩]
def t29 : VC :=
 (.call 41 (.e (.var 0) (.e (.var 1) (.e (.var 2) (.e (.var 3) (.e (.var 4) (.e (.var 5) (.e (.var 6) .nil))))))) 1
 (.ite (.not (.eq (.var 8) (.lit 1)))
  (.fin (.e (.lit 0) (.e (.lit 0) (.e (.lit 0) (.e (.lit 0) (.e (.lit 0) (.e (.lit 0) (.e (.lit 0) (.e (.lit 1) .nil)))))))))
  (.call 48 (.e (.var 7) .nil) 1
  (.ite (.not (.eq (.var 9) (.lit 1)))
   (.fin (.e (.lit 0) (.e (.lit 0) (.e (.lit 0) (.e (.lit 0) (.e (.lit 0) (.e (.lit 0) (.e (.lit 0) (.e (.lit 2) .nil)))))))))
   (.call 67 (.e (.lit 1) .nil) 7
   (.loop 0 [(.lit 0), (.ite (.eq (.var 10) (.lit 1)) (.lit 1) (.lit 0)), (.var 11), (.var 12), (.var 13), (.var 14), (.var 15), (.var 16)] [⟨0, 191⟩, ⟨0, 1⟩, ⟨0, 4294967295⟩, ⟨0, 4294967295⟩, ⟨0, 4294967295⟩, ⟨0, 4294967295⟩, ⟨0, 4294967295⟩, ⟨0, 4294967295⟩]
    (.ite (.lt (.var 17) (.var 7))
     (.call 42 (.e (.var 18) (.e (.var 19) (.e (.var 20) (.e (.var 21) (.e (.var 22) (.e (.var 23) (.e (.var 24) (.e (.var 0) (.e (.var 1) (.e (.var 2) (.e (.var 3) (.e (.var 4) (.e (.var 5) (.e (.var 6) .nil)))))))))))))) 8
     (.ite (.not (.eq (.var 32) (.lit 0)))
      (.fin (.e (.lit 0) (.e (.lit 0) (.e (.lit 0) (.e (.lit 0) (.e (.lit 0) (.e (.lit 0) (.e (.lit 0) (.e (.var 32) .nil)))))))))
      (.again 0 17 [⟨0, 191⟩, ⟨0, 1⟩, ⟨0, 4294967295⟩, ⟨0, 4294967295⟩, ⟨0, 4294967295⟩, ⟨0, 4294967295⟩, ⟨0, 4294967295⟩, ⟨0, 4294967295⟩] [(.add (.var 17) (.lit 1)), (.ite (.eq (.var 25) (.lit 1)) (.lit 1) (.lit 0)), (.var 26), (.var 27), (.var 28), (.var 29), (.var 30), (.var 31)])))
     (.fin (.e (.var 18) (.e (.var 19) (.e (.var 20) (.e (.var 21) (.e (.var 22) (.e (.var 23) (.e (.var 24) (.e (.lit 0) .nil))))))))))))))))
theorem v29 : vcOfI ⟨c29, [(7, ⟨0, [7], [2], [18, 19, 20, 24, 25, 26, 23, 27, 28, 8, 9, 29, 30, 31, 32, 5, 33, 21, 22], [⟨0, 191⟩, ⟨0, 1⟩, ⟨0, 4294967295⟩, ⟨0, 4294967295⟩, ⟨0, 4294967295⟩, ⟨0, 4294967295⟩, ⟨0, 4294967295⟩, ⟨0, 4294967295⟩]⟩)]⟩ iv29 250 Try.f29 s29 = t29 := by kernel_rfl
set_option linter.unusedVariables false in
def p29 (T : Tab) (I : Nat → List Int → List Int → Prop) (M : Nat → List Int → List Int → Nat) (pre : Nat → List Int → Prop) (post : List Int → Prop) (v0 v1 v2 v3 v4 v5 v6 v7 : Int) : Prop :=
 ∀ v8 : Int, [v8] = T.out 41 1 [v0, v1, v2, v3, v4, v5, v6] →
 (((!decide ((v8 : Int) = 1)) = true →
  post [0, 0, 0, 0, 0, 0, 0, 1]) ∧ ((!decide ((v8 : Int) = 1)) = false →
  ∀ v9 : Int, [v9] = T.out 48 1 [v7] →
  (((!decide ((v9 : Int) = 1)) = true →
   post [0, 0, 0, 0, 0, 0, 0, 2]) ∧ ((!decide ((v9 : Int) = 1)) = false →
   ∀ v10 v11 v12 v13 v14 v15 v16 : Int, [v10, v11, v12, v13, v14, v15, v16] = T.out 67 7 [1] →
   ((allHas [⟨0, 191⟩, ⟨0, 1⟩, ⟨0, 4294967295⟩, ⟨0, 4294967295⟩, ⟨0, 4294967295⟩, ⟨0, 4294967295⟩, ⟨0, 4294967295⟩, ⟨0, 4294967295⟩] [0, (if decide ((v10 : Int) = 1) = true then 1 else 0), v11, v12, v13, v14, v15, v16] ∧ I 0 [v0, v1, v2, v3, v4, v5, v6, v7, v8, v9, v10, v11, v12, v13, v14, v15, v16] [0, (if decide ((v10 : Int) = 1) = true then 1 else 0), v11, v12, v13, v14, v15, v16]) ∧ ∀ v17 v18 v19 v20 v21 v22 v23 v24 : Int, allHas [⟨0, 191⟩, ⟨0, 1⟩, ⟨0, 4294967295⟩, ⟨0, 4294967295⟩, ⟨0, 4294967295⟩, ⟨0, 4294967295⟩, ⟨0, 4294967295⟩, ⟨0, 4294967295⟩] [v17, v18, v19, v20, v21, v22, v23, v24] → I 0 [v0, v1, v2, v3, v4, v5, v6, v7, v8, v9, v10, v11, v12, v13, v14, v15, v16] [v17, v18, v19, v20, v21, v22, v23, v24] →
    ((decide ((v17 : Int) < v7) = true →
     ∀ v25 v26 v27 v28 v29 v30 v31 v32 : Int, [v25, v26, v27, v28, v29, v30, v31, v32] = T.out 42 8 [v18, v19, v20, v21, v22, v23, v24, v0, v1, v2, v3, v4, v5, v6] →
     (((!decide ((v32 : Int) = 0)) = true →
      post [0, 0, 0, 0, 0, 0, 0, v32]) ∧ ((!decide ((v32 : Int) = 0)) = false →
      (allHas [⟨0, 191⟩, ⟨0, 1⟩, ⟨0, 4294967295⟩, ⟨0, 4294967295⟩, ⟨0, 4294967295⟩, ⟨0, 4294967295⟩, ⟨0, 4294967295⟩, ⟨0, 4294967295⟩] [(v17 + 1), (if decide ((v25 : Int) = 1) = true then 1 else 0), v26, v27, v28, v29, v30, v31] ∧ I 0 [v0, v1, v2, v3, v4, v5, v6, v7, v8, v9, v10, v11, v12, v13, v14, v15, v16] [(v17 + 1), (if decide ((v25 : Int) = 1) = true then 1 else 0), v26, v27, v28, v29, v30, v31] ∧ M 0 [v0, v1, v2, v3, v4, v5, v6, v7, v8, v9, v10, v11, v12, v13, v14, v15, v16] [(v17 + 1), (if decide ((v25 : Int) = 1) = true then 1 else 0), v26, v27, v28, v29, v30, v31] < M 0 [v0, v1, v2, v3, v4, v5, v6, v7, v8, v9, v10, v11, v12, v13, v14, v15, v16] [v17, v18, v19, v20, v21, v22, v23, v24])))) ∧ (decide ((v17 : Int) < v7) = false →
     post [v18, v19, v20, v21, v22, v23, v24, 0])))))))
theorem q29 (T : Tab) (I : Nat → List Int → List Int → Prop) (M : Nat → List Int → List Int → Nat) (pre : Nat → List Int → Prop) (post : List Int → Prop) (v0 v1 v2 v3 v4 v5 v6 v7 : Int) : t29.plain T (presL pre I M) post ⟨[v0, v1, v2, v3, v4, v5, v6, v7], []⟩ = p29 T I M pre post v0 v1 v2 v3 v4 v5 v6 v7 := by kernel_rfl
theorem k29 (T : Tab) (I : Nat → List Int → List Int → Prop) (M : Nat → List Int → List Int → Nat) (pre : Nat → List Int → Prop) (hs : SubSig T c29.sigs) (ht : Tot pre c29.sigs) (hg : T.sig 29 = some s29) (hC : CtAll Try.prog T.fns (pres pre) c29.sigs)
    (h : ∀ (v0 v1 v2 v3 v4 v5 v6 v7 : Int), (0 ≤ v0 ∧ v0 ≤ 1) → (0 ≤ v1 ∧ v1 ≤ 4294967295) → (0 ≤ v2 ∧ v2 ≤ 4294967295) → (0 ≤ v3 ∧ v3 ≤ 4294967295) → (0 ≤ v4 ∧ v4 ≤ 4294967295) → (0 ≤ v5 ∧ v5 ≤ 4294967295) → (0 ≤ v6 ∧ v6 ≤ 4294967295) → ((-9223372036854775808) ≤ v7 ∧ v7 ≤ 9223372036854775807) → pre 29 [v0, v1, v2, v3, v4, v5, v6, v7] → p29 T I M pre (fun ys => ys = T.fn 29 [v0, v1, v2, v3, v4, v5, v6, v7]) v0 v1 v2 v3 v4 v5 v6 v7) : CT Try.prog T.fns (pres pre) 29 s29 :=
  T.ctq (F := ⟨c29, [(7, ⟨0, [7], [2], [18, 19, 20, 24, 25, 26, 23, 27, 28, 8, 9, 29, 30, 31, 32, 5, 33, 21, 22], [⟨0, 191⟩, ⟨0, 1⟩, ⟨0, 4294967295⟩, ⟨0, 4294967295⟩, ⟨0, 4294967295⟩, ⟨0, 4294967295⟩, ⟨0, 4294967295⟩, ⟨0, 4294967295⟩]⟩)]⟩) (fuel := 250) v29 Try.checked.mixed hs ht hg hC Try.func29 I M (fun _ h _ => h) fun xs hx hp => by
    match xs, hx, hp with
    | [v0, v1, v2, v3, v4, v5, v6, v7], hx, hp => rw [q29]; exact h v0 v1 v2 v3 v4 v5 v6 v7 hx.1 hx.2.1 hx.2.2.1 hx.2.2.2.1 hx.2.2.2.2.1 hx.2.2.2.2.2.1 hx.2.2.2.2.2.2.1 hx.2.2.2.2.2.2.2.1 hp

/-- loop.example/g01242/impl.ValidWide -/
noncomputable def c44 : Cfg := ⟨Try.prog, []⟩
def iv44 : List Iv := [⟨0, 1⟩, ⟨0, 4294967295⟩, ⟨0, 4294967295⟩, ⟨0, 4294967295⟩, ⟨0, 4294967295⟩, ⟨0, 4294967295⟩, ⟨0, 4294967295⟩]
def t44 : VC :=
 (.ite (.eq (.var 0) (.lit 1))
  (.bind (.ite (.not (.and (.eq (.var 1) (.lit 0)) (.and (.eq (.var 2) (.lit 0)) (.and (.eq (.var 3) (.lit 0)) (.and (.eq (.var 4) (.lit 0)) (.and (.eq (.var 5) (.lit 0)) (.eq (.var 6) (.lit 0)))))))) (.lit 1) (.lit 0))
  (.fin (.e (.var 7) .nil)))
  (.fin (.e (.lit 1) .nil)))
theorem v44 : vcOfI ⟨c44, []⟩ iv44 250 Try.f44 s44 = t44 := by kernel_rfl
set_option linter.unusedVariables false in
def p44 (T : Tab) (I : Nat → List Int → List Int → Prop) (M : Nat → List Int → List Int → Nat) (pre : Nat → List Int → Prop) (post : List Int → Prop) (v0 v1 v2 v3 v4 v5 v6 : Int) : Prop :=
 ((decide ((v0 : Int) = 1) = true →
  ∀ v7 : Int, v7 = (if (!(decide ((v1 : Int) = 0) && (decide ((v2 : Int) = 0) && (decide ((v3 : Int) = 0) && (decide ((v4 : Int) = 0) && (decide ((v5 : Int) = 0) && decide ((v6 : Int) = 0))))))) = true then 1 else 0) →
  post [v7]) ∧ (decide ((v0 : Int) = 1) = false →
  post [1]))
theorem q44 (T : Tab) (I : Nat → List Int → List Int → Prop) (M : Nat → List Int → List Int → Nat) (pre : Nat → List Int → Prop) (post : List Int → Prop) (v0 v1 v2 v3 v4 v5 v6 : Int) : t44.plain T (presL pre I M) post ⟨[v0, v1, v2, v3, v4, v5, v6], []⟩ = p44 T I M pre post v0 v1 v2 v3 v4 v5 v6 := by kernel_rfl
theorem k44 (T : Tab) (I : Nat → List Int → List Int → Prop) (M : Nat → List Int → List Int → Nat) (pre : Nat → List Int → Prop) (hs : SubSig T c44.sigs) (ht : Tot pre c44.sigs) (hg : T.sig 44 = some s44) (hC : CtAll Try.prog T.fns (pres pre) c44.sigs)
    (h : ∀ (v0 v1 v2 v3 v4 v5 v6 : Int), (0 ≤ v0 ∧ v0 ≤ 1) → (0 ≤ v1 ∧ v1 ≤ 4294967295) → (0 ≤ v2 ∧ v2 ≤ 4294967295) → (0 ≤ v3 ∧ v3 ≤ 4294967295) → (0 ≤ v4 ∧ v4 ≤ 4294967295) → (0 ≤ v5 ∧ v5 ≤ 4294967295) → (0 ≤ v6 ∧ v6 ≤ 4294967295) → pre 44 [v0, v1, v2, v3, v4, v5, v6] → p44 T I M pre (fun ys => ys = T.fn 44 [v0, v1, v2, v3, v4, v5, v6]) v0 v1 v2 v3 v4 v5 v6) : CT Try.prog T.fns (pres pre) 44 s44 :=
  T.ctq (F := ⟨c44, []⟩) (fuel := 250) v44 Try.checked.mixed hs ht hg hC Try.func44 I M (fun _ h _ => h) fun xs hx hp => by
    match xs, hx, hp with
    | [v0, v1, v2, v3, v4, v5, v6], hx, hp => rw [q44]; exact h v0 v1 v2 v3 v4 v5 v6 hx.1 hx.2.1 hx.2.2.1 hx.2.2.2.1 hx.2.2.2.2.1 hx.2.2.2.2.2.1 hx.2.2.2.2.2.2.1 hp

/-- loop.example/g01242/impl.WideOf -/
noncomputable def c64 : Cfg := ⟨Try.prog, [(58, s58)]⟩
def iv64 : List Iv := [⟨(-9223372036854775808), 9223372036854775807⟩]
def t64 : VC :=
 (.bind (.wrap .u64 (.var 0))
 (.ite (.lt (.var 0) (.lit 0))
  (.bind (.wrap .u64 (.sub (.lit 0) (.var 1)))
  (.call 58 (.e (.lit 1) (.e (.wrap .u32 (.var 2)) (.e (.div (.var 2) (.lit 4294967296)) (.e (.lit 0) (.e (.lit 0) (.e (.lit 0) (.e (.lit 0) .nil))))))) 7
  (.fin (.e (.var 3) (.e (.var 4) (.e (.var 5) (.e (.var 6) (.e (.var 7) (.e (.var 8) (.e (.var 9) .nil))))))))))
  (.call 58 (.e (.lit 0) (.e (.wrap .u32 (.var 1)) (.e (.div (.var 1) (.lit 4294967296)) (.e (.lit 0) (.e (.lit 0) (.e (.lit 0) (.e (.lit 0) .nil))))))) 7
  (.fin (.e (.var 2) (.e (.var 3) (.e (.var 4) (.e (.var 5) (.e (.var 6) (.e (.var 7) (.e (.var 8) .nil)))))))))))
theorem v64 : vcOfI ⟨c64, []⟩ iv64 250 Try.f64 s64 = t64 := by kernel_rfl
set_option linter.unusedVariables false in
def p64 (T : Tab) (I : Nat → List Int → List Int → Prop) (M : Nat → List Int → List Int → Nat) (pre : Nat → List Int → Prop) (post : List Int → Prop) (v0 : Int) : Prop :=
 ∀ v1 : Int, v1 = (IntKind.wrap .u64 v0) →
 ((decide ((v0 : Int) < 0) = true →
  ∀ v2 : Int, v2 = (IntKind.wrap .u64 (0 - v1)) →
  ∀ v3 v4 v5 v6 v7 v8 v9 : Int, [v3, v4, v5, v6, v7, v8, v9] = T.out 58 7 [1, (IntKind.wrap .u32 v2), (v2 / 4294967296), 0, 0, 0, 0] →
  post [v3, v4, v5, v6, v7, v8, v9]) ∧ (decide ((v0 : Int) < 0) = false →
  ∀ v2 v3 v4 v5 v6 v7 v8 : Int, [v2, v3, v4, v5, v6, v7, v8] = T.out 58 7 [0, (IntKind.wrap .u32 v1), (v1 / 4294967296), 0, 0, 0, 0] →
  post [v2, v3, v4, v5, v6, v7, v8]))
theorem q64 (T : Tab) (I : Nat → List Int → List Int → Prop) (M : Nat → List Int → List Int → Nat) (pre : Nat → List Int → Prop) (post : List Int → Prop) (v0 : Int) : t64.plain T (presL pre I M) post ⟨[v0], []⟩ = p64 T I M pre post v0 := by kernel_rfl
theorem k64 (T : Tab) (I : Nat → List Int → List Int → Prop) (M : Nat → List Int → List Int → Nat) (pre : Nat → List Int → Prop) (hs : SubSig T c64.sigs) (ht : Tot pre c64.sigs) (hg : T.sig 64 = some s64) (hC : CtAll Try.prog T.fns (pres pre) c64.sigs)
    (h : ∀ (v0 : Int), ((-9223372036854775808) ≤ v0 ∧ v0 ≤ 9223372036854775807) → pre 64 [v0] → p64 T I M pre (fun ys => ys = T.fn 64 [v0]) v0) : CT Try.prog T.fns (pres pre) 64 s64 :=
  T.ctq (F := ⟨c64, []⟩) (fuel := 250) v64 Try.checked.mixed hs ht hg hC Try.func64 I M (fun _ h _ => h) fun xs hx hp => by
    match xs, hx, hp with
    | [v0], hx, hp => rw [q64]; exact h v0 hx.1 hp

/-- loop.example/g01242/impl.wideOfSize -/
noncomputable def c58 : Cfg := ⟨Try.prog, [(50, s50)]⟩
def iv58 : List Iv := [⟨0, 1⟩, ⟨0, 4294967295⟩, ⟨0, 4294967295⟩, ⟨0, 4294967295⟩, ⟨0, 4294967295⟩, ⟨0, 4294967295⟩, ⟨0, 4294967295⟩]
def t58 : VC :=
 (.ite (.eq (.var 0) (.lit 1))
  (.call 50 (.e (.var 1) (.e (.var 2) (.e (.var 3) (.e (.var 4) (.e (.var 5) (.e (.var 6) .nil)))))) 1
  (.fin (.e (.ite (.not (.eq (.var 7) (.lit 1))) (.lit 1) (.lit 0)) (.e (.var 1) (.e (.var 2) (.e (.var 3) (.e (.var 4) (.e (.var 5) (.e (.var 6) .nil)))))))))
  (.fin (.e (.lit 0) (.e (.var 1) (.e (.var 2) (.e (.var 3) (.e (.var 4) (.e (.var 5) (.e (.var 6) .nil)))))))))
theorem v58 : vcOfI ⟨c58, []⟩ iv58 250 Try.f58 s58 = t58 := by kernel_rfl
set_option linter.unusedVariables false in
def p58 (T : Tab) (I : Nat → List Int → List Int → Prop) (M : Nat → List Int → List Int → Nat) (pre : Nat → List Int → Prop) (post : List Int → Prop) (v0 v1 v2 v3 v4 v5 v6 : Int) : Prop :=
 ((decide ((v0 : Int) = 1) = true →
  ∀ v7 : Int, [v7] = T.out 50 1 [v1, v2, v3, v4, v5, v6] →
  post [(if (!decide ((v7 : Int) = 1)) = true then 1 else 0), v1, v2, v3, v4, v5, v6]) ∧ (decide ((v0 : Int) = 1) = false →
  post [0, v1, v2, v3, v4, v5, v6]))
theorem q58 (T : Tab) (I : Nat → List Int → List Int → Prop) (M : Nat → List Int → List Int → Nat) (pre : Nat → List Int → Prop) (post : List Int → Prop) (v0 v1 v2 v3 v4 v5 v6 : Int) : t58.plain T (presL pre I M) post ⟨[v0, v1, v2, v3, v4, v5, v6], []⟩ = p58 T I M pre post v0 v1 v2 v3 v4 v5 v6 := by kernel_rfl
theorem k58 (T : Tab) (I : Nat → List Int → List Int → Prop) (M : Nat → List Int → List Int → Nat) (pre : Nat → List Int → Prop) (hs : SubSig T c58.sigs) (ht : Tot pre c58.sigs) (hg : T.sig 58 = some s58) (hC : CtAll Try.prog T.fns (pres pre) c58.sigs)
    (h : ∀ (v0 v1 v2 v3 v4 v5 v6 : Int), (0 ≤ v0 ∧ v0 ≤ 1) → (0 ≤ v1 ∧ v1 ≤ 4294967295) → (0 ≤ v2 ∧ v2 ≤ 4294967295) → (0 ≤ v3 ∧ v3 ≤ 4294967295) → (0 ≤ v4 ∧ v4 ≤ 4294967295) → (0 ≤ v5 ∧ v5 ≤ 4294967295) → (0 ≤ v6 ∧ v6 ≤ 4294967295) → pre 58 [v0, v1, v2, v3, v4, v5, v6] → p58 T I M pre (fun ys => ys = T.fn 58 [v0, v1, v2, v3, v4, v5, v6]) v0 v1 v2 v3 v4 v5 v6) : CT Try.prog T.fns (pres pre) 58 s58 :=
  T.ctq (F := ⟨c58, []⟩) (fuel := 250) v58 Try.checked.mixed hs ht hg hC Try.func58 I M (fun _ h _ => h) fun xs hx hp => by
    match xs, hx, hp with
    | [v0, v1, v2, v3, v4, v5, v6], hx, hp => rw [q58]; exact h v0 v1 v2 v3 v4 v5 v6 hx.1 hx.2.1 hx.2.2.1 hx.2.2.2.1 hx.2.2.2.2.1 hx.2.2.2.2.2.1 hx.2.2.2.2.2.2.1 hp

/-- loop.example/g01242/impl.wideWithin -/
noncomputable def c46 : Cfg := ⟨Try.prog, [(58, s58)]⟩
def iv46 : List Iv := [⟨0, 1⟩, ⟨0, 4294967295⟩, ⟨0, 4294967295⟩, ⟨0, 4294967295⟩, ⟨0, 4294967295⟩, ⟨0, 4294967295⟩, ⟨0, 4294967295⟩, ⟨0, 1⟩]
def t46 : VC :=
 (.ite (.eq (.var 7) (.lit 1))
  (.fin (.e (.lit 0) (.e (.lit 0) (.e (.lit 0) (.e (.lit 0) (.e (.lit 0) (.e (.lit 0) (.e (.lit 0) (.e (.lit 3) .nil)))))))))
  (.call 58 (.e (.var 0) (.e (.var 1) (.e (.var 2) (.e (.var 3) (.e (.var 4) (.e (.var 5) (.e (.var 6) .nil))))))) 7
  (.fin (.e (.var 8) (.e (.var 9) (.e (.var 10) (.e (.var 11) (.e (.var 12) (.e (.var 13) (.e (.var 14) (.e (.lit 0) .nil)))))))))))
theorem v46 : vcOfI ⟨c46, []⟩ iv46 250 Try.f46 s46 = t46 := by kernel_rfl
set_option linter.unusedVariables false in
def p46 (T : Tab) (I : Nat → List Int → List Int → Prop) (M : Nat → List Int → List Int → Nat) (pre : Nat → List Int → Prop) (post : List Int → Prop) (v0 v1 v2 v3 v4 v5 v6 v7 : Int) : Prop :=
 ((decide ((v7 : Int) = 1) = true →
  post [0, 0, 0, 0, 0, 0, 0, 3]) ∧ (decide ((v7 : Int) = 1) = false →
  ∀ v8 v9 v10 v11 v12 v13 v14 : Int, [v8, v9, v10, v11, v12, v13, v14] = T.out 58 7 [v0, v1, v2, v3, v4, v5, v6] →
  post [v8, v9, v10, v11, v12, v13, v14, 0]))
theorem q46 (T : Tab) (I : Nat → List Int → List Int → Prop) (M : Nat → List Int → List Int → Nat) (pre : Nat → List Int → Prop) (post : List Int → Prop) (v0 v1 v2 v3 v4 v5 v6 v7 : Int) : t46.plain T (presL pre I M) post ⟨[v0, v1, v2, v3, v4, v5, v6, v7], []⟩ = p46 T I M pre post v0 v1 v2 v3 v4 v5 v6 v7 := by kernel_rfl
theorem k46 (T : Tab) (I : Nat → List Int → List Int → Prop) (M : Nat → List Int → List Int → Nat) (pre : Nat → List Int → Prop) (hs : SubSig T c46.sigs) (ht : Tot pre c46.sigs) (hg : T.sig 46 = some s46) (hC : CtAll Try.prog T.fns (pres pre) c46.sigs)
    (h : ∀ (v0 v1 v2 v3 v4 v5 v6 v7 : Int), (0 ≤ v0 ∧ v0 ≤ 1) → (0 ≤ v1 ∧ v1 ≤ 4294967295) → (0 ≤ v2 ∧ v2 ≤ 4294967295) → (0 ≤ v3 ∧ v3 ≤ 4294967295) → (0 ≤ v4 ∧ v4 ≤ 4294967295) → (0 ≤ v5 ∧ v5 ≤ 4294967295) → (0 ≤ v6 ∧ v6 ≤ 4294967295) → (0 ≤ v7 ∧ v7 ≤ 1) → pre 46 [v0, v1, v2, v3, v4, v5, v6, v7] → p46 T I M pre (fun ys => ys = T.fn 46 [v0, v1, v2, v3, v4, v5, v6, v7]) v0 v1 v2 v3 v4 v5 v6 v7) : CT Try.prog T.fns (pres pre) 46 s46 :=
  T.ctq (F := ⟨c46, []⟩) (fuel := 250) v46 Try.checked.mixed hs ht hg hC Try.func46 I M (fun _ h _ => h) fun xs hx hp => by
    match xs, hx, hp with
    | [v0, v1, v2, v3, v4, v5, v6, v7], hx, hp => rw [q46]; exact h v0 v1 v2 v3 v4 v5 v6 v7 hx.1 hx.2.1 hx.2.2.1 hx.2.2.2.1 hx.2.2.2.2.1 hx.2.2.2.2.2.1 hx.2.2.2.2.2.2.1 hx.2.2.2.2.2.2.2.1 hp

/-- (loop.example/g01242/impl.limbs).isZero -/
noncomputable def c50 : Cfg := ⟨Try.prog, []⟩
def iv50 : List Iv := [⟨0, 4294967295⟩, ⟨0, 4294967295⟩, ⟨0, 4294967295⟩, ⟨0, 4294967295⟩, ⟨0, 4294967295⟩, ⟨0, 4294967295⟩]
def t50 : VC :=
 (.bind (.ite (.and (.eq (.var 0) (.lit 0)) (.and (.eq (.var 1) (.lit 0)) (.and (.eq (.var 2) (.lit 0)) (.and (.eq (.var 3) (.lit 0)) (.and (.eq (.var 4) (.lit 0)) (.eq (.var 5) (.lit 0))))))) (.lit 1) (.lit 0))
 (.fin (.e (.var 6) .nil)))
theorem v50 : vcOfI ⟨c50, []⟩ iv50 250 Try.f50 s50 = t50 := by kernel_rfl
set_option linter.unusedVariables false in
def p50 (T : Tab) (I : Nat → List Int → List Int → Prop) (M : Nat → List Int → List Int → Nat) (pre : Nat → List Int → Prop) (post : List Int → Prop) (v0 v1 v2 v3 v4 v5 : Int) : Prop :=
 ∀ v6 : Int, v6 = (if (decide ((v0 : Int) = 0) && (decide ((v1 : Int) = 0) && (decide ((v2 : Int) = 0) && (decide ((v3 : Int) = 0) && (decide ((v4 : Int) = 0) && decide ((v5 : Int) = 0)))))) = true then 1 else 0) →
 post [v6]
theorem q50 (T : Tab) (I : Nat → List Int → List Int → Prop) (M : Nat → List Int → List Int → Nat) (pre : Nat → List Int → Prop) (post : List Int → Prop) (v0 v1 v2 v3 v4 v5 : Int) : t50.plain T (presL pre I M) post ⟨[v0, v1, v2, v3, v4, v5], []⟩ = p50 T I M pre post v0 v1 v2 v3 v4 v5 := by kernel_rfl
theorem k50 (T : Tab) (I : Nat → List Int → List Int → Prop) (M : Nat → List Int → List Int → Nat) (pre : Nat → List Int → Prop) (hs : SubSig T c50.sigs) (ht : Tot pre c50.sigs) (hg : T.sig 50 = some s50) (hC : CtAll Try.prog T.fns (pres pre) c50.sigs)
    (h : ∀ (v0 v1 v2 v3 v4 v5 : Int), (0 ≤ v0 ∧ v0 ≤ 4294967295) → (0 ≤ v1 ∧ v1 ≤ 4294967295) → (0 ≤ v2 ∧ v2 ≤ 4294967295) → (0 ≤ v3 ∧ v3 ≤ 4294967295) → (0 ≤ v4 ∧ v4 ≤ 4294967295) → (0 ≤ v5 ∧ v5 ≤ 4294967295) → pre 50 [v0, v1, v2, v3, v4, v5] → p50 T I M pre (fun ys => ys = T.fn 50 [v0, v1, v2, v3, v4, v5]) v0 v1 v2 v3 v4 v5) : CT Try.prog T.fns (pres pre) 50 s50 :=
  T.ctq (F := ⟨c50, []⟩) (fuel := 250) v50 Try.checked.mixed hs ht hg hC Try.func50 I M (fun _ h _ => h) fun xs hx hp => by
    match xs, hx, hp with
    | [v0, v1, v2, v3, v4, v5], hx, hp => rw [q50]; exact h v0 v1 v2 v3 v4 v5 hx.1 hx.2.1 hx.2.2.1 hx.2.2.2.1 hx.2.2.2.2.1 hx.2.2.2.2.2.1 hp

/-- (loop.example/g01242/impl.limbs).compare -/
noncomputable def c56 : Cfg := ⟨Try.prog, []⟩
def iv56 : List Iv := [⟨0, 4294967295⟩, ⟨0, 4294967295⟩, ⟨0, 4294967295⟩, ⟨0, 4294967295⟩, ⟨0, 4294967295⟩, ⟨0, 4294967295⟩, ⟨0, 4294967295⟩, ⟨0, 4294967295⟩, ⟨0, 4294967295⟩, ⟨0, 4294967295⟩, ⟨0, 4294967295⟩, ⟨0, 4294967295⟩]
def t56 : VC :=
 (.ite (.and (.eq (.var 0) (.var 6)) (.and (.eq (.var 1) (.var 7)) (.and (.eq (.var 2) (.var 8)) (.and (.eq (.var 3) (.var 9)) (.and (.eq (.var 4) (.var 10)) (.eq (.var 5) (.var 11)))))))
  (.fin (.e (.lit 0) .nil))
  (.ite (.eq (.var 5) (.var 11))
   (.ite (.eq (.var 4) (.var 10))
    (.ite (.eq (.var 3) (.var 9))
     (.ite (.eq (.var 2) (.var 8))
      (.ite (.eq (.var 1) (.var 7))
       (.ite (.eq (.var 0) (.var 6))
        (.fail 16)
        (.ite (.lt (.var 0) (.var 6))
         (.fin (.e (.lit (-1)) .nil))
         (.fin (.e (.lit 1) .nil))))
       (.ite (.lt (.var 1) (.var 7))
        (.fin (.e (.lit (-1)) .nil))
        (.fin (.e (.lit 1) .nil))))
      (.ite (.lt (.var 2) (.var 8))
       (.fin (.e (.lit (-1)) .nil))
       (.fin (.e (.lit 1) .nil))))
     (.ite (.lt (.var 3) (.var 9))
      (.fin (.e (.lit (-1)) .nil))
      (.fin (.e (.lit 1) .nil))))
    (.ite (.lt (.var 4) (.var 10))
     (.fin (.e (.lit (-1)) .nil))
     (.fin (.e (.lit 1) .nil))))
   (.ite (.lt (.var 5) (.var 11))
    (.fin (.e (.lit (-1)) .nil))
    (.fin (.e (.lit 1) .nil)))))
theorem v56 : vcOfI ⟨c56, []⟩ iv56 250 Try.f56 s56 = t56 := by kernel_rfl
set_option linter.unusedVariables false in
def p56 (T : Tab) (I : Nat → List Int → List Int → Prop) (M : Nat → List Int → List Int → Nat) (pre : Nat → List Int → Prop) (post : List Int → Prop) (v0 v1 v2 v3 v4 v5 v6 v7 v8 v9 v10 v11 : Int) : Prop :=
 (((decide ((v0 : Int) = v6) && (decide ((v1 : Int) = v7) && (decide ((v2 : Int) = v8) && (decide ((v3 : Int) = v9) && (decide ((v4 : Int) = v10) && decide ((v5 : Int) = v11)))))) = true →
  post [0]) ∧ ((decide ((v0 : Int) = v6) && (decide ((v1 : Int) = v7) && (decide ((v2 : Int) = v8) && (decide ((v3 : Int) = v9) && (decide ((v4 : Int) = v10) && decide ((v5 : Int) = v11)))))) = false →
  ((decide ((v5 : Int) = v11) = true →
   ((decide ((v4 : Int) = v10) = true →
    ((decide ((v3 : Int) = v9) = true →
     ((decide ((v2 : Int) = v8) = true →
      ((decide ((v1 : Int) = v7) = true →
       ((decide ((v0 : Int) = v6) = true →
        False) ∧ (decide ((v0 : Int) = v6) = false →
        ((decide ((v0 : Int) < v6) = true →
         post [(-1)]) ∧ (decide ((v0 : Int) < v6) = false →
         post [1]))))) ∧ (decide ((v1 : Int) = v7) = false →
       ((decide ((v1 : Int) < v7) = true →
        post [(-1)]) ∧ (decide ((v1 : Int) < v7) = false →
        post [1]))))) ∧ (decide ((v2 : Int) = v8) = false →
      ((decide ((v2 : Int) < v8) = true →
       post [(-1)]) ∧ (decide ((v2 : Int) < v8) = false →
       post [1]))))) ∧ (decide ((v3 : Int) = v9) = false →
     ((decide ((v3 : Int) < v9) = true →
      post [(-1)]) ∧ (decide ((v3 : Int) < v9) = false →
      post [1]))))) ∧ (decide ((v4 : Int) = v10) = false →
    ((decide ((v4 : Int) < v10) = true →
     post [(-1)]) ∧ (decide ((v4 : Int) < v10) = false →
     post [1]))))) ∧ (decide ((v5 : Int) = v11) = false →
   ((decide ((v5 : Int) < v11) = true →
    post [(-1)]) ∧ (decide ((v5 : Int) < v11) = false →
    post [1]))))))
theorem q56 (T : Tab) (I : Nat → List Int → List Int → Prop) (M : Nat → List Int → List Int → Nat) (pre : Nat → List Int → Prop) (post : List Int → Prop) (v0 v1 v2 v3 v4 v5 v6 v7 v8 v9 v10 v11 : Int) : t56.plain T (presL pre I M) post ⟨[v0, v1, v2, v3, v4, v5, v6, v7, v8, v9, v10, v11], []⟩ = p56 T I M pre post v0 v1 v2 v3 v4 v5 v6 v7 v8 v9 v10 v11 := by kernel_rfl
theorem k56 (T : Tab) (I : Nat → List Int → List Int → Prop) (M : Nat → List Int → List Int → Nat) (pre : Nat → List Int → Prop) (hs : SubSig T c56.sigs) (ht : Tot pre c56.sigs) (hg : T.sig 56 = some s56) (hC : CtAll Try.prog T.fns (pres pre) c56.sigs)
    (h : ∀ (v0 v1 v2 v3 v4 v5 v6 v7 v8 v9 v10 v11 : Int), (0 ≤ v0 ∧ v0 ≤ 4294967295) → (0 ≤ v1 ∧ v1 ≤ 4294967295) → (0 ≤ v2 ∧ v2 ≤ 4294967295) → (0 ≤ v3 ∧ v3 ≤ 4294967295) → (0 ≤ v4 ∧ v4 ≤ 4294967295) → (0 ≤ v5 ∧ v5 ≤ 4294967295) → (0 ≤ v6 ∧ v6 ≤ 4294967295) → (0 ≤ v7 ∧ v7 ≤ 4294967295) → (0 ≤ v8 ∧ v8 ≤ 4294967295) → (0 ≤ v9 ∧ v9 ≤ 4294967295) → (0 ≤ v10 ∧ v10 ≤ 4294967295) → (0 ≤ v11 ∧ v11 ≤ 4294967295) → pre 56 [v0, v1, v2, v3, v4, v5, v6, v7, v8, v9, v10, v11] → p56 T I M pre (fun ys => ys = T.fn 56 [v0, v1, v2, v3, v4, v5, v6, v7, v8, v9, v10, v11]) v0 v1 v2 v3 v4 v5 v6 v7 v8 v9 v10 v11) : CT Try.prog T.fns (pres pre) 56 s56 :=
  T.ctq (F := ⟨c56, []⟩) (fuel := 250) v56 Try.checked.mixed hs ht hg hC Try.func56 I M (fun _ h _ => h) fun xs hx hp => by
    match xs, hx, hp with
    | [v0, v1, v2, v3, v4, v5, v6, v7, v8, v9, v10, v11], hx, hp => rw [q56]; exact h v0 v1 v2 v3 v4 v5 v6 v7 v8 v9 v10 v11 hx.1 hx.2.1 hx.2.2.1 hx.2.2.2.1 hx.2.2.2.2.1 hx.2.2.2.2.2.1 hx.2.2.2.2.2.2.1 hx.2.2.2.2.2.2.2.1 hx.2.2.2.2.2.2.2.2.1 hx.2.2.2.2.2.2.2.2.2.1 hx.2.2.2.2.2.2.2.2.2.2.1 hx.2.2.2.2.2.2.2.2.2.2.2.1 hp

/-- (loop.example/g01242/impl.limbs).plus -/
noncomputable def c77 : Cfg := ⟨Try.prog, []⟩
def iv77 : List Iv := [⟨0, 4294967295⟩, ⟨0, 4294967295⟩, ⟨0, 4294967295⟩, ⟨0, 4294967295⟩, ⟨0, 4294967295⟩, ⟨0, 4294967295⟩, ⟨0, 4294967295⟩, ⟨0, 4294967295⟩, ⟨0, 4294967295⟩, ⟨0, 4294967295⟩, ⟨0, 4294967295⟩, ⟨0, 4294967295⟩]
def t77 : VC :=
 (.bind (.add (.var 0) (.var 6))
 (.bind (.wrap .u32 (.var 12))
 (.bind (.div (.var 12) (.lit 4294967296))
 (.bind (.add (.add (.var 1) (.var 7)) (.var 14))
 (.bind (.wrap .u32 (.var 15))
 (.bind (.div (.var 15) (.lit 4294967296))
 (.bind (.add (.add (.var 2) (.var 8)) (.var 17))
 (.bind (.wrap .u32 (.var 18))
 (.bind (.div (.var 18) (.lit 4294967296))
 (.bind (.add (.add (.var 3) (.var 9)) (.var 20))
 (.bind (.wrap .u32 (.var 21))
 (.bind (.div (.var 21) (.lit 4294967296))
 (.bind (.add (.add (.var 4) (.var 10)) (.var 23))
 (.bind (.wrap .u32 (.var 24))
 (.bind (.div (.var 24) (.lit 4294967296))
 (.bind (.add (.add (.var 5) (.var 11)) (.var 26))
 (.bind (.wrap .u32 (.var 27))
 (.bind (.div (.var 27) (.lit 4294967296))
 (.fin (.e (.var 13) (.e (.var 16) (.e (.var 19) (.e (.var 22) (.e (.var 25) (.e (.var 28) (.e (.ite (.not (.eq (.var 29) (.lit 0))) (.lit 1) (.lit 0)) .nil))))))))))))))))))))))))))
theorem v77 : vcOfI ⟨c77, []⟩ iv77 250 Try.f77 s77 = t77 := by kernel_rfl
set_option linter.unusedVariables false in
def p77 (T : Tab) (I : Nat → List Int → List Int → Prop) (M : Nat → List Int → List Int → Nat) (pre : Nat → List Int → Prop) (post : List Int → Prop) (v0 v1 v2 v3 v4 v5 v6 v7 v8 v9 v10 v11 : Int) : Prop :=
 ∀ v12 : Int, v12 = (v0 + v6) →
 ∀ v13 : Int, v13 = (IntKind.wrap .u32 v12) →
 ∀ v14 : Int, v14 = (v12 / 4294967296) →
 ∀ v15 : Int, v15 = ((v1 + v7) + v14) →
 ∀ v16 : Int, v16 = (IntKind.wrap .u32 v15) →
 ∀ v17 : Int, v17 = (v15 / 4294967296) →
 ∀ v18 : Int, v18 = ((v2 + v8) + v17) →
 ∀ v19 : Int, v19 = (IntKind.wrap .u32 v18) →
 ∀ v20 : Int, v20 = (v18 / 4294967296) →
 ∀ v21 : Int, v21 = ((v3 + v9) + v20) →
 ∀ v22 : Int, v22 = (IntKind.wrap .u32 v21) →
 ∀ v23 : Int, v23 = (v21 / 4294967296) →
 ∀ v24 : Int, v24 = ((v4 + v10) + v23) →
 ∀ v25 : Int, v25 = (IntKind.wrap .u32 v24) →
 ∀ v26 : Int, v26 = (v24 / 4294967296) →
 ∀ v27 : Int, v27 = ((v5 + v11) + v26) →
 ∀ v28 : Int, v28 = (IntKind.wrap .u32 v27) →
 ∀ v29 : Int, v29 = (v27 / 4294967296) →
 post [v13, v16, v19, v22, v25, v28, (if (!decide ((v29 : Int) = 0)) = true then 1 else 0)]
theorem q77 (T : Tab) (I : Nat → List Int → List Int → Prop) (M : Nat → List Int → List Int → Nat) (pre : Nat → List Int → Prop) (post : List Int → Prop) (v0 v1 v2 v3 v4 v5 v6 v7 v8 v9 v10 v11 : Int) : t77.plain T (presL pre I M) post ⟨[v0, v1, v2, v3, v4, v5, v6, v7, v8, v9, v10, v11], []⟩ = p77 T I M pre post v0 v1 v2 v3 v4 v5 v6 v7 v8 v9 v10 v11 := by kernel_rfl
theorem k77 (T : Tab) (I : Nat → List Int → List Int → Prop) (M : Nat → List Int → List Int → Nat) (pre : Nat → List Int → Prop) (hs : SubSig T c77.sigs) (ht : Tot pre c77.sigs) (hg : T.sig 77 = some s77) (hC : CtAll Try.prog T.fns (pres pre) c77.sigs)
    (h : ∀ (v0 v1 v2 v3 v4 v5 v6 v7 v8 v9 v10 v11 : Int), (0 ≤ v0 ∧ v0 ≤ 4294967295) → (0 ≤ v1 ∧ v1 ≤ 4294967295) → (0 ≤ v2 ∧ v2 ≤ 4294967295) → (0 ≤ v3 ∧ v3 ≤ 4294967295) → (0 ≤ v4 ∧ v4 ≤ 4294967295) → (0 ≤ v5 ∧ v5 ≤ 4294967295) → (0 ≤ v6 ∧ v6 ≤ 4294967295) → (0 ≤ v7 ∧ v7 ≤ 4294967295) → (0 ≤ v8 ∧ v8 ≤ 4294967295) → (0 ≤ v9 ∧ v9 ≤ 4294967295) → (0 ≤ v10 ∧ v10 ≤ 4294967295) → (0 ≤ v11 ∧ v11 ≤ 4294967295) → pre 77 [v0, v1, v2, v3, v4, v5, v6, v7, v8, v9, v10, v11] → p77 T I M pre (fun ys => ys = T.fn 77 [v0, v1, v2, v3, v4, v5, v6, v7, v8, v9, v10, v11]) v0 v1 v2 v3 v4 v5 v6 v7 v8 v9 v10 v11) : CT Try.prog T.fns (pres pre) 77 s77 :=
  T.ctq (F := ⟨c77, []⟩) (fuel := 250) v77 Try.checked.mixed hs ht hg hC Try.func77 I M (fun _ h _ => h) fun xs hx hp => by
    match xs, hx, hp with
    | [v0, v1, v2, v3, v4, v5, v6, v7, v8, v9, v10, v11], hx, hp => rw [q77]; exact h v0 v1 v2 v3 v4 v5 v6 v7 v8 v9 v10 v11 hx.1 hx.2.1 hx.2.2.1 hx.2.2.2.1 hx.2.2.2.2.1 hx.2.2.2.2.2.1 hx.2.2.2.2.2.2.1 hx.2.2.2.2.2.2.2.1 hx.2.2.2.2.2.2.2.2.1 hx.2.2.2.2.2.2.2.2.2.1 hx.2.2.2.2.2.2.2.2.2.2.1 hx.2.2.2.2.2.2.2.2.2.2.2.1 hp

/-- (loop.example/g01242/impl.limbs).minus -/
noncomputable def c55 : Cfg := ⟨Try.prog, []⟩
def iv55 : List Iv := [⟨0, 4294967295⟩, ⟨0, 4294967295⟩, ⟨0, 4294967295⟩, ⟨0, 4294967295⟩, ⟨0, 4294967295⟩, ⟨0, 4294967295⟩, ⟨0, 4294967295⟩, ⟨0, 4294967295⟩, ⟨0, 4294967295⟩, ⟨0, 4294967295⟩, ⟨0, 4294967295⟩, ⟨0, 4294967295⟩]
def t55 : VC :=
 (.bind (.wrap .u64 (.sub (.var 0) (.var 6)))
 (.bind (.wrap .u32 (.var 12))
 (.bind (.div (.var 12) (.lit 9223372036854775808))
 (.bind (.wrap .u64 (.sub (.wrap .u64 (.sub (.var 1) (.var 7))) (.var 14)))
 (.bind (.wrap .u32 (.var 15))
 (.bind (.div (.var 15) (.lit 9223372036854775808))
 (.bind (.wrap .u64 (.sub (.wrap .u64 (.sub (.var 2) (.var 8))) (.var 17)))
 (.bind (.wrap .u32 (.var 18))
 (.bind (.div (.var 18) (.lit 9223372036854775808))
 (.bind (.wrap .u64 (.sub (.wrap .u64 (.sub (.var 3) (.var 9))) (.var 20)))
 (.bind (.wrap .u32 (.var 21))
 (.bind (.div (.var 21) (.lit 9223372036854775808))
 (.bind (.wrap .u64 (.sub (.wrap .u64 (.sub (.var 4) (.var 10))) (.var 23)))
 (.bind (.wrap .u32 (.var 24))
 (.bind (.div (.var 24) (.lit 9223372036854775808))
 (.bind (.wrap .u64 (.sub (.wrap .u64 (.sub (.var 5) (.var 11))) (.var 26)))
 (.bind (.wrap .u32 (.var 27))
 (.bind (.div (.var 27) (.lit 9223372036854775808))
 (.fin (.e (.var 13) (.e (.var 16) (.e (.var 19) (.e (.var 22) (.e (.var 25) (.e (.var 28) .nil)))))))))))))))))))))))))
theorem v55 : vcOfI ⟨c55, []⟩ iv55 250 Try.f55 s55 = t55 := by kernel_rfl
set_option linter.unusedVariables false in
def p55 (T : Tab) (I : Nat → List Int → List Int → Prop) (M : Nat → List Int → List Int → Nat) (pre : Nat → List Int → Prop) (post : List Int → Prop) (v0 v1 v2 v3 v4 v5 v6 v7 v8 v9 v10 v11 : Int) : Prop :=
 ∀ v12 : Int, v12 = (IntKind.wrap .u64 (v0 - v6)) →
 ∀ v13 : Int, v13 = (IntKind.wrap .u32 v12) →
 ∀ v14 : Int, v14 = (v12 / 9223372036854775808) →
 ∀ v15 : Int, v15 = (IntKind.wrap .u64 ((IntKind.wrap .u64 (v1 - v7)) - v14)) →
 ∀ v16 : Int, v16 = (IntKind.wrap .u32 v15) →
 ∀ v17 : Int, v17 = (v15 / 9223372036854775808) →
 ∀ v18 : Int, v18 = (IntKind.wrap .u64 ((IntKind.wrap .u64 (v2 - v8)) - v17)) →
 ∀ v19 : Int, v19 = (IntKind.wrap .u32 v18) →
 ∀ v20 : Int, v20 = (v18 / 9223372036854775808) →
 ∀ v21 : Int, v21 = (IntKind.wrap .u64 ((IntKind.wrap .u64 (v3 - v9)) - v20)) →
 ∀ v22 : Int, v22 = (IntKind.wrap .u32 v21) →
 ∀ v23 : Int, v23 = (v21 / 9223372036854775808) →
 ∀ v24 : Int, v24 = (IntKind.wrap .u64 ((IntKind.wrap .u64 (v4 - v10)) - v23)) →
 ∀ v25 : Int, v25 = (IntKind.wrap .u32 v24) →
 ∀ v26 : Int, v26 = (v24 / 9223372036854775808) →
 ∀ v27 : Int, v27 = (IntKind.wrap .u64 ((IntKind.wrap .u64 (v5 - v11)) - v26)) →
 ∀ v28 : Int, v28 = (IntKind.wrap .u32 v27) →
 ∀ v29 : Int, v29 = (v27 / 9223372036854775808) →
 post [v13, v16, v19, v22, v25, v28]
theorem q55 (T : Tab) (I : Nat → List Int → List Int → Prop) (M : Nat → List Int → List Int → Nat) (pre : Nat → List Int → Prop) (post : List Int → Prop) (v0 v1 v2 v3 v4 v5 v6 v7 v8 v9 v10 v11 : Int) : t55.plain T (presL pre I M) post ⟨[v0, v1, v2, v3, v4, v5, v6, v7, v8, v9, v10, v11], []⟩ = p55 T I M pre post v0 v1 v2 v3 v4 v5 v6 v7 v8 v9 v10 v11 := by kernel_rfl
theorem k55 (T : Tab) (I : Nat → List Int → List Int → Prop) (M : Nat → List Int → List Int → Nat) (pre : Nat → List Int → Prop) (hs : SubSig T c55.sigs) (ht : Tot pre c55.sigs) (hg : T.sig 55 = some s55) (hC : CtAll Try.prog T.fns (pres pre) c55.sigs)
    (h : ∀ (v0 v1 v2 v3 v4 v5 v6 v7 v8 v9 v10 v11 : Int), (0 ≤ v0 ∧ v0 ≤ 4294967295) → (0 ≤ v1 ∧ v1 ≤ 4294967295) → (0 ≤ v2 ∧ v2 ≤ 4294967295) → (0 ≤ v3 ∧ v3 ≤ 4294967295) → (0 ≤ v4 ∧ v4 ≤ 4294967295) → (0 ≤ v5 ∧ v5 ≤ 4294967295) → (0 ≤ v6 ∧ v6 ≤ 4294967295) → (0 ≤ v7 ∧ v7 ≤ 4294967295) → (0 ≤ v8 ∧ v8 ≤ 4294967295) → (0 ≤ v9 ∧ v9 ≤ 4294967295) → (0 ≤ v10 ∧ v10 ≤ 4294967295) → (0 ≤ v11 ∧ v11 ≤ 4294967295) → pre 55 [v0, v1, v2, v3, v4, v5, v6, v7, v8, v9, v10, v11] → p55 T I M pre (fun ys => ys = T.fn 55 [v0, v1, v2, v3, v4, v5, v6, v7, v8, v9, v10, v11]) v0 v1 v2 v3 v4 v5 v6 v7 v8 v9 v10 v11) : CT Try.prog T.fns (pres pre) 55 s55 :=
  T.ctq (F := ⟨c55, []⟩) (fuel := 250) v55 Try.checked.mixed hs ht hg hC Try.func55 I M (fun _ h _ => h) fun xs hx hp => by
    match xs, hx, hp with
    | [v0, v1, v2, v3, v4, v5, v6, v7, v8, v9, v10, v11], hx, hp => rw [q55]; exact h v0 v1 v2 v3 v4 v5 v6 v7 v8 v9 v10 v11 hx.1 hx.2.1 hx.2.2.1 hx.2.2.2.1 hx.2.2.2.2.1 hx.2.2.2.2.2.1 hx.2.2.2.2.2.2.1 hx.2.2.2.2.2.2.2.1 hx.2.2.2.2.2.2.2.2.1 hx.2.2.2.2.2.2.2.2.2.1 hx.2.2.2.2.2.2.2.2.2.2.1 hx.2.2.2.2.2.2.2.2.2.2.2.1 hp

/-- (loop.example/g01242/impl.limbs).next -/
noncomputable def c57 : Cfg := ⟨Try.prog, [(77, s77)]⟩
def iv57 : List Iv := [⟨0, 4294967295⟩, ⟨0, 4294967295⟩, ⟨0, 4294967295⟩, ⟨0, 4294967295⟩, ⟨0, 4294967295⟩, ⟨0, 4294967295⟩]
def t57 : VC :=
 (.call 77 (.e (.var 0) (.e (.var 1) (.e (.var 2) (.e (.var 3) (.e (.var 4) (.e (.var 5) (.e (.lit 1) (.e (.lit 0) (.e (.lit 0) (.e (.lit 0) (.e (.lit 0) (.e (.lit 0) .nil)))))))))))) 7
 (.fin (.e (.var 6) (.e (.var 7) (.e (.var 8) (.e (.var 9) (.e (.var 10) (.e (.var 11) .nil))))))))
theorem v57 : vcOfI ⟨c57, []⟩ iv57 250 Try.f57 s57 = t57 := by kernel_rfl
set_option linter.unusedVariables false in
def p57 (T : Tab) (I : Nat → List Int → List Int → Prop) (M : Nat → List Int → List Int → Nat) (pre : Nat → List Int → Prop) (post : List Int → Prop) (v0 v1 v2 v3 v4 v5 : Int) : Prop :=
 ∀ v6 v7 v8 v9 v10 v11 v12 : Int, [v6, v7, v8, v9, v10, v11, v12] = T.out 77 7 [v0, v1, v2, v3, v4, v5, 1, 0, 0, 0, 0, 0] →
 post [v6, v7, v8, v9, v10, v11]
theorem q57 (T : Tab) (I : Nat → List Int → List Int → Prop) (M : Nat → List Int → List Int → Nat) (pre : Nat → List Int → Prop) (post : List Int → Prop) (v0 v1 v2 v3 v4 v5 : Int) : t57.plain T (presL pre I M) post ⟨[v0, v1, v2, v3, v4, v5], []⟩ = p57 T I M pre post v0 v1 v2 v3 v4 v5 := by kernel_rfl
theorem k57 (T : Tab) (I : Nat → List Int → List Int → Prop) (M : Nat → List Int → List Int → Nat) (pre : Nat → List Int → Prop) (hs : SubSig T c57.sigs) (ht : Tot pre c57.sigs) (hg : T.sig 57 = some s57) (hC : CtAll Try.prog T.fns (pres pre) c57.sigs)
    (h : ∀ (v0 v1 v2 v3 v4 v5 : Int), (0 ≤ v0 ∧ v0 ≤ 4294967295) → (0 ≤ v1 ∧ v1 ≤ 4294967295) → (0 ≤ v2 ∧ v2 ≤ 4294967295) → (0 ≤ v3 ∧ v3 ≤ 4294967295) → (0 ≤ v4 ∧ v4 ≤ 4294967295) → (0 ≤ v5 ∧ v5 ≤ 4294967295) → pre 57 [v0, v1, v2, v3, v4, v5] → p57 T I M pre (fun ys => ys = T.fn 57 [v0, v1, v2, v3, v4, v5]) v0 v1 v2 v3 v4 v5) : CT Try.prog T.fns (pres pre) 57 s57 :=
  T.ctq (F := ⟨c57, []⟩) (fuel := 250) v57 Try.checked.mixed hs ht hg hC Try.func57 I M (fun _ h _ => h) fun xs hx hp => by
    match xs, hx, hp with
    | [v0, v1, v2, v3, v4, v5], hx, hp => rw [q57]; exact h v0 v1 v2 v3 v4 v5 hx.1 hx.2.1 hx.2.2.1 hx.2.2.2.1 hx.2.2.2.2.1 hx.2.2.2.2.2.1 hp

/-- (loop.example/g01242/impl.limbs).used -/
noncomputable def c86 : Cfg := ⟨Try.prog, []⟩
def iv86 : List Iv := [⟨0, 4294967295⟩, ⟨0, 4294967295⟩, ⟨0, 4294967295⟩, ⟨0, 4294967295⟩, ⟨0, 4294967295⟩, ⟨0, 4294967295⟩]
def t86 : VC :=
 (.ite (.eq (.var 5) (.lit 0))
  (.ite (.eq (.var 4) (.lit 0))
   (.ite (.eq (.var 3) (.lit 0))
    (.ite (.eq (.var 2) (.lit 0))
     (.ite (.eq (.var 1) (.lit 0))
      (.ite (.eq (.var 0) (.lit 0))
       (.fin (.e (.lit 0) .nil))
       (.fin (.e (.lit 1) .nil)))
      (.fin (.e (.lit 2) .nil)))
     (.fin (.e (.lit 3) .nil)))
    (.fin (.e (.lit 4) .nil)))
   (.fin (.e (.lit 5) .nil)))
  (.fin (.e (.lit 6) .nil)))
theorem v86 : vcOfI ⟨c86, []⟩ iv86 250 Try.f86 s86 = t86 := by kernel_rfl
set_option linter.unusedVariables false in
def p86 (T : Tab) (I : Nat → List Int → List Int → Prop) (M : Nat → List Int → List Int → Nat) (pre : Nat → List Int → Prop) (post : List Int → Prop) (v0 v1 v2 v3 v4 v5 : Int) : Prop :=
 ((decide ((v5 : Int) = 0) = true →
  ((decide ((v4 : Int) = 0) = true →
   ((decide ((v3 : Int) = 0) = true →
    ((decide ((v2 : Int) = 0) = true →
     ((decide ((v1 : Int) = 0) = true →
      ((decide ((v0 : Int) = 0) = true →
       post [0]) ∧ (decide ((v0 : Int) = 0) = false →
       post [1]))) ∧ (decide ((v1 : Int) = 0) = false →
      post [2]))) ∧ (decide ((v2 : Int) = 0) = false →
     post [3]))) ∧ (decide ((v3 : Int) = 0) = false →
    post [4]))) ∧ (decide ((v4 : Int) = 0) = false →
   post [5]))) ∧ (decide ((v5 : Int) = 0) = false →
  post [6]))
theorem q86 (T : Tab) (I : Nat → List Int → List Int → Prop) (M : Nat → List Int → List Int → Nat) (pre : Nat → List Int → Prop) (post : List Int → Prop) (v0 v1 v2 v3 v4 v5 : Int) : t86.plain T (presL pre I M) post ⟨[v0, v1, v2, v3, v4, v5], []⟩ = p86 T I M pre post v0 v1 v2 v3 v4 v5 := by kernel_rfl
theorem k86 (T : Tab) (I : Nat → List Int → List Int → Prop) (M : Nat → List Int → List Int → Nat) (pre : Nat → List Int → Prop) (hs : SubSig T c86.sigs) (ht : Tot pre c86.sigs) (hg : T.sig 86 = some s86) (hC : CtAll Try.prog T.fns (pres pre) c86.sigs)
    (h : ∀ (v0 v1 v2 v3 v4 v5 : Int), (0 ≤ v0 ∧ v0 ≤ 4294967295) → (0 ≤ v1 ∧ v1 ≤ 4294967295) → (0 ≤ v2 ∧ v2 ≤ 4294967295) → (0 ≤ v3 ∧ v3 ≤ 4294967295) → (0 ≤ v4 ∧ v4 ≤ 4294967295) → (0 ≤ v5 ∧ v5 ≤ 4294967295) → pre 86 [v0, v1, v2, v3, v4, v5] → p86 T I M pre (fun ys => ys = T.fn 86 [v0, v1, v2, v3, v4, v5]) v0 v1 v2 v3 v4 v5) : CT Try.prog T.fns (pres pre) 86 s86 :=
  T.ctq (F := ⟨c86, []⟩) (fuel := 250) v86 Try.checked.mixed hs ht hg hC Try.func86 I M (fun _ h _ => h) fun xs hx hp => by
    match xs, hx, hp with
    | [v0, v1, v2, v3, v4, v5], hx, hp => rw [q86]; exact h v0 v1 v2 v3 v4 v5 hx.1 hx.2.1 hx.2.2.1 hx.2.2.2.1 hx.2.2.2.2.1 hx.2.2.2.2.2.1 hp

/-- (loop.example/g01242/impl.limbs).bitCount -/
noncomputable def c51 : Cfg := ⟨Try.prog, [(86, s86), (88, s88)]⟩
def iv51 : List Iv := [⟨0, 4294967295⟩, ⟨0, 4294967295⟩, ⟨0, 4294967295⟩, ⟨0, 4294967295⟩, ⟨0, 4294967295⟩, ⟨0, 4294967295⟩]
def t51 : VC :=
 (.call 86 (.e (.var 0) (.e (.var 1) (.e (.var 2) (.e (.var 3) (.e (.var 4) (.e (.var 5) .nil)))))) 1
 (.ite (.eq (.var 6) (.lit 0))
  (.fin (.e (.lit 0) .nil))
  (.bind (.ite (.eq (.sub (.var 6) (.lit 1)) (.lit 0)) (.var 0) (.ite (.eq (.sub (.var 6) (.lit 1)) (.lit 1)) (.var 1) (.ite (.eq (.sub (.var 6) (.lit 1)) (.lit 2)) (.var 2) (.ite (.eq (.sub (.var 6) (.lit 1)) (.lit 3)) (.var 3) (.ite (.eq (.sub (.var 6) (.lit 1)) (.lit 4)) (.var 4) (.var 5))))))
  (.call 88 (.e (.var 7) .nil) 1
  (.bind (.add (.mul (.sub (.var 6) (.lit 1)) (.lit 32)) (.var 8))
  (.fin (.e (.var 9) .nil)))))))
theorem v51 : vcOfI ⟨c51, []⟩ iv51 250 Try.f51 s51 = t51 := by kernel_rfl
set_option linter.unusedVariables false in
def p51 (T : Tab) (I : Nat → List Int → List Int → Prop) (M : Nat → List Int → List Int → Nat) (pre : Nat → List Int → Prop) (post : List Int → Prop) (v0 v1 v2 v3 v4 v5 : Int) : Prop :=
 ∀ v6 : Int, [v6] = T.out 86 1 [v0, v1, v2, v3, v4, v5] →
 ((decide ((v6 : Int) = 0) = true →
  post [0]) ∧ (decide ((v6 : Int) = 0) = false →
  ∀ v7 : Int, v7 = (if decide (((v6 - 1) : Int) = 0) = true then v0 else (if decide (((v6 - 1) : Int) = 1) = true then v1 else (if decide (((v6 - 1) : Int) = 2) = true then v2 else (if decide (((v6 - 1) : Int) = 3) = true then v3 else (if decide (((v6 - 1) : Int) = 4) = true then v4 else v5))))) →
  ∀ v8 : Int, [v8] = T.out 88 1 [v7] →
  ∀ v9 : Int, v9 = (((v6 - 1) * 32) + v8) →
  post [v9]))
theorem q51 (T : Tab) (I : Nat → List Int → List Int → Prop) (M : Nat → List Int → List Int → Nat) (pre : Nat → List Int → Prop) (post : List Int → Prop) (v0 v1 v2 v3 v4 v5 : Int) : t51.plain T (presL pre I M) post ⟨[v0, v1, v2, v3, v4, v5], []⟩ = p51 T I M pre post v0 v1 v2 v3 v4 v5 := by kernel_rfl
theorem k51 (T : Tab) (I : Nat → List Int → List Int → Prop) (M : Nat → List Int → List Int → Nat) (pre : Nat → List Int → Prop) (hs : SubSig T c51.sigs) (ht : Tot pre c51.sigs) (hg : T.sig 51 = some s51) (hC : CtAll Try.prog T.fns (pres pre) c51.sigs)
    (h : ∀ (v0 v1 v2 v3 v4 v5 : Int), (0 ≤ v0 ∧ v0 ≤ 4294967295) → (0 ≤ v1 ∧ v1 ≤ 4294967295) → (0 ≤ v2 ∧ v2 ≤ 4294967295) → (0 ≤ v3 ∧ v3 ≤ 4294967295) → (0 ≤ v4 ∧ v4 ≤ 4294967295) → (0 ≤ v5 ∧ v5 ≤ 4294967295) → pre 51 [v0, v1, v2, v3, v4, v5] → p51 T I M pre (fun ys => ys = T.fn 51 [v0, v1, v2, v3, v4, v5]) v0 v1 v2 v3 v4 v5) : CT Try.prog T.fns (pres pre) 51 s51 :=
  T.ctq (F := ⟨c51, []⟩) (fuel := 250) v51 Try.checked.mixed hs ht hg hC Try.func51 I M (fun _ h _ => h) fun xs hx hp => by
    match xs, hx, hp with
    | [v0, v1, v2, v3, v4, v5], hx, hp => rw [q51]; exact h v0 v1 v2 v3 v4 v5 hx.1 hx.2.1 hx.2.2.1 hx.2.2.2.1 hx.2.2.2.2.1 hx.2.2.2.2.2.1 hp

/-- math/bits.Len32 -/
noncomputable def c88 : Cfg := ⟨Try.prog, []⟩
def iv88 : List Iv := [⟨0, 4294967295⟩]
def t88 : VC :=
 (.ite (.le (.lit 65536) (.var 0))
  (.bind (.div (.var 0) (.lit 65536))
  (.ite (.le (.lit 256) (.var 1))
   (.bind (.div (.var 1) (.lit 256))
   (.need [(.b (.lt (.var 2) (.len (.lit [0, 1, 2, 2, 3, 3, 3, 3, 4, 4, 4, 4, 4, 4, 4, 4, 5, 5, 5, 5, 5, 5, 5, 5, 5, 5, 5, 5, 5, 5, 5, 5, 6, 6, 6, 6, 6, 6, 6, 6, 6, 6, 6, 6, 6, 6, 6, 6, 6, 6, 6, 6, 6, 6, 6, 6, 6, 6, 6, 6, 6, 6, 6, 6, 7, 7, 7, 7, 7, 7, 7, 7, 7, 7, 7, 7, 7, 7, 7, 7, 7, 7, 7, 7, 7, 7, 7, 7, 7, 7, 7, 7, 7, 7, 7, 7, 7, 7, 7, 7, 7, 7, 7, 7, 7, 7, 7, 7, 7, 7, 7, 7, 7, 7, 7, 7, 7, 7, 7, 7, 7, 7, 7, 7, 7, 7, 7, 7, 8, 8, 8, 8, 8, 8, 8, 8, 8, 8, 8, 8, 8, 8, 8, 8, 8, 8, 8, 8, 8, 8, 8, 8, 8, 8, 8, 8, 8, 8, 8, 8, 8, 8, 8, 8, 8, 8, 8, 8, 8, 8, 8, 8, 8, 8, 8, 8, 8, 8, 8, 8, 8, 8, 8, 8, 8, 8, 8, 8, 8, 8, 8, 8, 8, 8, 8, 8, 8, 8, 8, 8, 8, 8, 8, 8, 8, 8, 8, 8, 8, 8, 8, 8, 8, 8, 8, 8, 8, 8, 8, 8, 8, 8, 8, 8, 8, 8, 8, 8, 8, 8, 8, 8, 8, 8, 8, 8, 8, 8, 8, 8, 8, 8, 8, 8, 8, 8, 8, 8, 8, 8, 8, 8, 8, 8, 8, 8]))))]
   (.bind (.add (.lit 24) (.at (.lit [0, 1, 2, 2, 3, 3, 3, 3, 4, 4, 4, 4, 4, 4, 4, 4, 5, 5, 5, 5, 5, 5, 5, 5, 5, 5, 5, 5, 5, 5, 5, 5, 6, 6, 6, 6, 6, 6, 6, 6, 6, 6, 6, 6, 6, 6, 6, 6, 6, 6, 6, 6, 6, 6, 6, 6, 6, 6, 6, 6, 6, 6, 6, 6, 7, 7, 7, 7, 7, 7, 7, 7, 7, 7, 7, 7, 7, 7, 7, 7, 7, 7, 7, 7, 7, 7, 7, 7, 7, 7, 7, 7, 7, 7, 7, 7, 7, 7, 7, 7, 7, 7, 7, 7, 7, 7, 7, 7, 7, 7, 7, 7, 7, 7, 7, 7, 7, 7, 7, 7, 7, 7, 7, 7, 7, 7, 7, 7, 8, 8, 8, 8, 8, 8, 8, 8, 8, 8, 8, 8, 8, 8, 8, 8, 8, 8, 8, 8, 8, 8, 8, 8, 8, 8, 8, 8, 8, 8, 8, 8, 8, 8, 8, 8, 8, 8, 8, 8, 8, 8, 8, 8, 8, 8, 8, 8, 8, 8, 8, 8, 8, 8, 8, 8, 8, 8, 8, 8, 8, 8, 8, 8, 8, 8, 8, 8, 8, 8, 8, 8, 8, 8, 8, 8, 8, 8, 8, 8, 8, 8, 8, 8, 8, 8, 8, 8, 8, 8, 8, 8, 8, 8, 8, 8, 8, 8, 8, 8, 8, 8, 8, 8, 8, 8, 8, 8, 8, 8, 8, 8, 8, 8, 8, 8, 8, 8, 8, 8, 8, 8, 8, 8, 8, 8, 8, 8]) (.var 2)))
   (.fin (.e (.var 3) .nil)))))
   (.need [(.b (.lt (.var 1) (.len (.lit [0, 1, 2, 2, 3, 3, 3, 3, 4, 4, 4, 4, 4, 4, 4, 4, 5, 5, 5, 5, 5, 5, 5, 5, 5, 5, 5, 5, 5, 5, 5, 5, 6, 6, 6, 6, 6, 6, 6, 6, 6, 6, 6, 6, 6, 6, 6, 6, 6, 6, 6, 6, 6, 6, 6, 6, 6, 6, 6, 6, 6, 6, 6, 6, 7, 7, 7, 7, 7, 7, 7, 7, 7, 7, 7, 7, 7, 7, 7, 7, 7, 7, 7, 7, 7, 7, 7, 7, 7, 7, 7, 7, 7, 7, 7, 7, 7, 7, 7, 7, 7, 7, 7, 7, 7, 7, 7, 7, 7, 7, 7, 7, 7, 7, 7, 7, 7, 7, 7, 7, 7, 7, 7, 7, 7, 7, 7, 7, 8, 8, 8, 8, 8, 8, 8, 8, 8, 8, 8, 8, 8, 8, 8, 8, 8, 8, 8, 8, 8, 8, 8, 8, 8, 8, 8, 8, 8, 8, 8, 8, 8, 8, 8, 8, 8, 8, 8, 8, 8, 8, 8, 8, 8, 8, 8, 8, 8, 8, 8, 8, 8, 8, 8, 8, 8, 8, 8, 8, 8, 8, 8, 8, 8, 8, 8, 8, 8, 8, 8, 8, 8, 8, 8, 8, 8, 8, 8, 8, 8, 8, 8, 8, 8, 8, 8, 8, 8, 8, 8, 8, 8, 8, 8, 8, 8, 8, 8, 8, 8, 8, 8, 8, 8, 8, 8, 8, 8, 8, 8, 8, 8, 8, 8, 8, 8, 8, 8, 8, 8, 8, 8, 8, 8, 8, 8, 8]))))]
   (.bind (.add (.lit 16) (.at (.lit [0, 1, 2, 2, 3, 3, 3, 3, 4, 4, 4, 4, 4, 4, 4, 4, 5, 5, 5, 5, 5, 5, 5, 5, 5, 5, 5, 5, 5, 5, 5, 5, 6, 6, 6, 6, 6, 6, 6, 6, 6, 6, 6, 6, 6, 6, 6, 6, 6, 6, 6, 6, 6, 6, 6, 6, 6, 6, 6, 6, 6, 6, 6, 6, 7, 7, 7, 7, 7, 7, 7, 7, 7, 7, 7, 7, 7, 7, 7, 7, 7, 7, 7, 7, 7, 7, 7, 7, 7, 7, 7, 7, 7, 7, 7, 7, 7, 7, 7, 7, 7, 7, 7, 7, 7, 7, 7, 7, 7, 7, 7, 7, 7, 7, 7, 7, 7, 7, 7, 7, 7, 7, 7, 7, 7, 7, 7, 7, 8, 8, 8, 8, 8, 8, 8, 8, 8, 8, 8, 8, 8, 8, 8, 8, 8, 8, 8, 8, 8, 8, 8, 8, 8, 8, 8, 8, 8, 8, 8, 8, 8, 8, 8, 8, 8, 8, 8, 8, 8, 8, 8, 8, 8, 8, 8, 8, 8, 8, 8, 8, 8, 8, 8, 8, 8, 8, 8, 8, 8, 8, 8, 8, 8, 8, 8, 8, 8, 8, 8, 8, 8, 8, 8, 8, 8, 8, 8, 8, 8, 8, 8, 8, 8, 8, 8, 8, 8, 8, 8, 8, 8, 8, 8, 8, 8, 8, 8, 8, 8, 8, 8, 8, 8, 8, 8, 8, 8, 8, 8, 8, 8, 8, 8, 8, 8, 8, 8, 8, 8, 8, 8, 8, 8, 8, 8, 8]) (.var 1)))
   (.fin (.e (.var 2) .nil))))))
  (.ite (.le (.lit 256) (.var 0))
   (.bind (.div (.var 0) (.lit 256))
   (.need [(.b (.lt (.var 1) (.len (.lit [0, 1, 2, 2, 3, 3, 3, 3, 4, 4, 4, 4, 4, 4, 4, 4, 5, 5, 5, 5, 5, 5, 5, 5, 5, 5, 5, 5, 5, 5, 5, 5, 6, 6, 6, 6, 6, 6, 6, 6, 6, 6, 6, 6, 6, 6, 6, 6, 6, 6, 6, 6, 6, 6, 6, 6, 6, 6, 6, 6, 6, 6, 6, 6, 7, 7, 7, 7, 7, 7, 7, 7, 7, 7, 7, 7, 7, 7, 7, 7, 7, 7, 7, 7, 7, 7, 7, 7, 7, 7, 7, 7, 7, 7, 7, 7, 7, 7, 7, 7, 7, 7, 7, 7, 7, 7, 7, 7, 7, 7, 7, 7, 7, 7, 7, 7, 7, 7, 7, 7, 7, 7, 7, 7, 7, 7, 7, 7, 8, 8, 8, 8, 8, 8, 8, 8, 8, 8, 8, 8, 8, 8, 8, 8, 8, 8, 8, 8, 8, 8, 8, 8, 8, 8, 8, 8, 8, 8, 8, 8, 8, 8, 8, 8, 8, 8, 8, 8, 8, 8, 8, 8, 8, 8, 8, 8, 8, 8, 8, 8, 8, 8, 8, 8, 8, 8, 8, 8, 8, 8, 8, 8, 8, 8, 8, 8, 8, 8, 8, 8, 8, 8, 8, 8, 8, 8, 8, 8, 8, 8, 8, 8, 8, 8, 8, 8, 8, 8, 8, 8, 8, 8, 8, 8, 8, 8, 8, 8, 8, 8, 8, 8, 8, 8, 8, 8, 8, 8, 8, 8, 8, 8, 8, 8, 8, 8, 8, 8, 8, 8, 8, 8, 8, 8, 8, 8]))))]
   (.bind (.add (.lit 8) (.at (.lit [0, 1, 2, 2, 3, 3, 3, 3, 4, 4, 4, 4, 4, 4, 4, 4, 5, 5, 5, 5, 5, 5, 5, 5, 5, 5, 5, 5, 5, 5, 5, 5, 6, 6, 6, 6, 6, 6, 6, 6, 6, 6, 6, 6, 6, 6, 6, 6, 6, 6, 6, 6, 6, 6, 6, 6, 6, 6, 6, 6, 6, 6, 6, 6, 7, 7, 7, 7, 7, 7, 7, 7, 7, 7, 7, 7, 7, 7, 7, 7, 7, 7, 7, 7, 7, 7, 7, 7, 7, 7, 7, 7, 7, 7, 7, 7, 7, 7, 7, 7, 7, 7, 7, 7, 7, 7, 7, 7, 7, 7, 7, 7, 7, 7, 7, 7, 7, 7, 7, 7, 7, 7, 7, 7, 7, 7, 7, 7, 8, 8, 8, 8, 8, 8, 8, 8, 8, 8, 8, 8, 8, 8, 8, 8, 8, 8, 8, 8, 8, 8, 8, 8, 8, 8, 8, 8, 8, 8, 8, 8, 8, 8, 8, 8, 8, 8, 8, 8, 8, 8, 8, 8, 8, 8, 8, 8, 8, 8, 8, 8, 8, 8, 8, 8, 8, 8, 8, 8, 8, 8, 8, 8, 8, 8, 8, 8, 8, 8, 8, 8, 8, 8, 8, 8, 8, 8, 8, 8, 8, 8, 8, 8, 8, 8, 8, 8, 8, 8, 8, 8, 8, 8, 8, 8, 8, 8, 8, 8, 8, 8, 8, 8, 8, 8, 8, 8, 8, 8, 8, 8, 8, 8, 8, 8, 8, 8, 8, 8, 8, 8, 8, 8, 8, 8, 8, 8]) (.var 1)))
   (.fin (.e (.var 2) .nil)))))
   (.need [(.b (.lt (.var 0) (.len (.lit [0, 1, 2, 2, 3, 3, 3, 3, 4, 4, 4, 4, 4, 4, 4, 4, 5, 5, 5, 5, 5, 5, 5, 5, 5, 5, 5, 5, 5, 5, 5, 5, 6, 6, 6, 6, 6, 6, 6, 6, 6, 6, 6, 6, 6, 6, 6, 6, 6, 6, 6, 6, 6, 6, 6, 6, 6, 6, 6, 6, 6, 6, 6, 6, 7, 7, 7, 7, 7, 7, 7, 7, 7, 7, 7, 7, 7, 7, 7, 7, 7, 7, 7, 7, 7, 7, 7, 7, 7, 7, 7, 7, 7, 7, 7, 7, 7, 7, 7, 7, 7, 7, 7, 7, 7, 7, 7, 7, 7, 7, 7, 7, 7, 7, 7, 7, 7, 7, 7, 7, 7, 7, 7, 7, 7, 7, 7, 7, 8, 8, 8, 8, 8, 8, 8, 8, 8, 8, 8, 8, 8, 8, 8, 8, 8, 8, 8, 8, 8, 8, 8, 8, 8, 8, 8, 8, 8, 8, 8, 8, 8, 8, 8, 8, 8, 8, 8, 8, 8, 8, 8, 8, 8, 8, 8, 8, 8, 8, 8, 8, 8, 8, 8, 8, 8, 8, 8, 8, 8, 8, 8, 8, 8, 8, 8, 8, 8, 8, 8, 8, 8, 8, 8, 8, 8, 8, 8, 8, 8, 8, 8, 8, 8, 8, 8, 8, 8, 8, 8, 8, 8, 8, 8, 8, 8, 8, 8, 8, 8, 8, 8, 8, 8, 8, 8, 8, 8, 8, 8, 8, 8, 8, 8, 8, 8, 8, 8, 8, 8, 8, 8, 8, 8, 8, 8, 8]))))]
   (.bind (.add (.lit 0) (.at (.lit [0, 1, 2, 2, 3, 3, 3, 3, 4, 4, 4, 4, 4, 4, 4, 4, 5, 5, 5, 5, 5, 5, 5, 5, 5, 5, 5, 5, 5, 5, 5, 5, 6, 6, 6, 6, 6, 6, 6, 6, 6, 6, 6, 6, 6, 6, 6, 6, 6, 6, 6, 6, 6, 6, 6, 6, 6, 6, 6, 6, 6, 6, 6, 6, 7, 7, 7, 7, 7, 7, 7, 7, 7, 7, 7, 7, 7, 7, 7, 7, 7, 7, 7, 7, 7, 7, 7, 7, 7, 7, 7, 7, 7, 7, 7, 7, 7, 7, 7, 7, 7, 7, 7, 7, 7, 7, 7, 7, 7, 7, 7, 7, 7, 7, 7, 7, 7, 7, 7, 7, 7, 7, 7, 7, 7, 7, 7, 7, 8, 8, 8, 8, 8, 8, 8, 8, 8, 8, 8, 8, 8, 8, 8, 8, 8, 8, 8, 8, 8, 8, 8, 8, 8, 8, 8, 8, 8, 8, 8, 8, 8, 8, 8, 8, 8, 8, 8, 8, 8, 8, 8, 8, 8, 8, 8, 8, 8, 8, 8, 8, 8, 8, 8, 8, 8, 8, 8, 8, 8, 8, 8, 8, 8, 8, 8, 8, 8, 8, 8, 8, 8, 8, 8, 8, 8, 8, 8, 8, 8, 8, 8, 8, 8, 8, 8, 8, 8, 8, 8, 8, 8, 8, 8, 8, 8, 8, 8, 8, 8, 8, 8, 8, 8, 8, 8, 8, 8, 8, 8, 8, 8, 8, 8, 8, 8, 8, 8, 8, 8, 8, 8, 8, 8, 8, 8, 8]) (.var 0)))
   (.fin (.e (.var 1) .nil))))))
theorem v88 : vcOfI ⟨c88, []⟩ iv88 250 Try.f88 s88 = t88 := by kernel_rfl
def z88_0 : List Int := [0, 1, 2, 2, 3, 3, 3, 3, 4, 4, 4, 4, 4, 4, 4, 4, 5, 5, 5, 5, 5, 5, 5, 5, 5, 5, 5, 5, 5, 5, 5, 5, 6, 6, 6, 6, 6, 6, 6, 6, 6, 6, 6, 6, 6, 6, 6, 6, 6, 6, 6, 6, 6, 6, 6, 6, 6, 6, 6, 6, 6, 6, 6, 6, 7, 7, 7, 7, 7, 7, 7, 7, 7, 7, 7, 7, 7, 7, 7, 7, 7, 7, 7, 7, 7, 7, 7, 7, 7, 7, 7, 7, 7, 7, 7, 7, 7, 7, 7, 7, 7, 7, 7, 7, 7, 7, 7, 7, 7, 7, 7, 7, 7, 7, 7, 7, 7, 7, 7, 7, 7, 7, 7, 7, 7, 7, 7, 7, 8, 8, 8, 8, 8, 8, 8, 8, 8, 8, 8, 8, 8, 8, 8, 8, 8, 8, 8, 8, 8, 8, 8, 8, 8, 8, 8, 8, 8, 8, 8, 8, 8, 8, 8, 8, 8, 8, 8, 8, 8, 8, 8, 8, 8, 8, 8, 8, 8, 8, 8, 8, 8, 8, 8, 8, 8, 8, 8, 8, 8, 8, 8, 8, 8, 8, 8, 8, 8, 8, 8, 8, 8, 8, 8, 8, 8, 8, 8, 8, 8, 8, 8, 8, 8, 8, 8, 8, 8, 8, 8, 8, 8, 8, 8, 8, 8, 8, 8, 8, 8, 8, 8, 8, 8, 8, 8, 8, 8, 8, 8, 8, 8, 8, 8, 8, 8, 8, 8, 8, 8, 8, 8, 8, 8, 8, 8, 8]
set_option linter.unusedVariables false in
def p88 (T : Tab) (I : Nat → List Int → List Int → Prop) (M : Nat → List Int → List Int → Nat) (pre : Nat → List Int → Prop) (post : List Int → Prop) (v0 : Int) : Prop :=
 ((decide ((65536 : Int) ≤ v0) = true →
  ∀ v1 : Int, v1 = (v0 / 65536) →
  ((decide ((256 : Int) ≤ v1) = true →
   ∀ v2 : Int, v2 = (v1 / 256) →
   ((decide ((v2 : Int) < (List.length z88_0 : Int)) = true) ∧ ((decide ((v2 : Int) < (List.length z88_0 : Int)) = true) →
   ∀ v3 : Int, v3 = (24 + (List.getD z88_0 (Int.toNat v2) 0)) →
   post [v3]))) ∧ (decide ((256 : Int) ≤ v1) = false →
   ((decide ((v1 : Int) < (List.length z88_0 : Int)) = true) ∧ ((decide ((v1 : Int) < (List.length z88_0 : Int)) = true) →
   ∀ v2 : Int, v2 = (16 + (List.getD z88_0 (Int.toNat v1) 0)) →
   post [v2]))))) ∧ (decide ((65536 : Int) ≤ v0) = false →
  ((decide ((256 : Int) ≤ v0) = true →
   ∀ v1 : Int, v1 = (v0 / 256) →
   ((decide ((v1 : Int) < (List.length z88_0 : Int)) = true) ∧ ((decide ((v1 : Int) < (List.length z88_0 : Int)) = true) →
   ∀ v2 : Int, v2 = (8 + (List.getD z88_0 (Int.toNat v1) 0)) →
   post [v2]))) ∧ (decide ((256 : Int) ≤ v0) = false →
   ((decide ((v0 : Int) < (List.length z88_0 : Int)) = true) ∧ ((decide ((v0 : Int) < (List.length z88_0 : Int)) = true) →
   ∀ v1 : Int, v1 = (0 + (List.getD z88_0 (Int.toNat v0) 0)) →
   post [v1]))))))
theorem q88 (T : Tab) (I : Nat → List Int → List Int → Prop) (M : Nat → List Int → List Int → Nat) (pre : Nat → List Int → Prop) (post : List Int → Prop) (v0 : Int) : t88.plain T (presL pre I M) post ⟨[v0], []⟩ = p88 T I M pre post v0 := by kernel_rfl
theorem k88 (T : Tab) (I : Nat → List Int → List Int → Prop) (M : Nat → List Int → List Int → Nat) (pre : Nat → List Int → Prop) (hs : SubSig T c88.sigs) (ht : Tot pre c88.sigs) (hg : T.sig 88 = some s88) (hC : CtAll Try.prog T.fns (pres pre) c88.sigs)
    (h : ∀ (v0 : Int), (0 ≤ v0 ∧ v0 ≤ 4294967295) → pre 88 [v0] → p88 T I M pre (fun ys => ys = T.fn 88 [v0]) v0) : CT Try.prog T.fns (pres pre) 88 s88 :=
  T.ctq (F := ⟨c88, []⟩) (fuel := 250) v88 Try.checked.mixed hs ht hg hC Try.func88 I M (fun _ h _ => h) fun xs hx hp => by
    match xs, hx, hp with
    | [v0], hx, hp => rw [q88]; exact h v0 hx.1 hp

end Go.Proofs.Ytmlmdicdblgcfaa.Sx

namespace Go.Proofs.Ytmlmdicdblgcfaa.Sx
open Go Go.RowKit
/-- (loop.example/g01242/impl.limbs).up -/
noncomputable def c52 : Cfg := ⟨Try.prog, []⟩
def iv52 : List Iv := [⟨0, 4294967295⟩, ⟨0, 4294967295⟩, ⟨0, 4294967295⟩, ⟨0, 4294967295⟩, ⟨0, 4294967295⟩, ⟨0, 4294967295⟩, ⟨0, 191⟩]
def t52 : VC :=
 (.bind (.div (.var 6) (.lit 32))
 (.bind (.mod (.var 6) (.lit 32))
 (.loop 0 [(.var 7), (.lit 0), (.lit 0), (.lit 0), (.lit 0), (.lit 0), (.lit 0)] [⟨0, 6⟩, ⟨0, 4294967295⟩, ⟨0, 4294967295⟩, ⟨0, 4294967295⟩, ⟨0, 4294967295⟩, ⟨0, 4294967295⟩, ⟨0, 4294967295⟩]
  (.ite (.lt (.var 9) (.lit 6))
   (.need [(.b (.le (.lit 0) (.sub (.var 9) (.var 7))))]
   (.bind (.ite (.eq (.sub (.var 9) (.var 7)) (.lit 0)) (.var 0) (.ite (.eq (.sub (.var 9) (.var 7)) (.lit 1)) (.var 1) (.ite (.eq (.sub (.var 9) (.var 7)) (.lit 2)) (.var 2) (.ite (.eq (.sub (.var 9) (.var 7)) (.lit 3)) (.var 3) (.ite (.eq (.sub (.var 9) (.var 7)) (.lit 4)) (.var 4) (.var 5))))))
   (.bind (.ite (.eq (.var 9) (.lit 0)) (.wrap .u32 (.mul (.var 16) (.pow2 (.var 8)))) (.var 10))
   (.bind (.ite (.eq (.var 9) (.lit 1)) (.wrap .u32 (.mul (.var 16) (.pow2 (.var 8)))) (.var 11))
   (.bind (.ite (.eq (.var 9) (.lit 2)) (.wrap .u32 (.mul (.var 16) (.pow2 (.var 8)))) (.var 12))
   (.bind (.ite (.eq (.var 9) (.lit 3)) (.wrap .u32 (.mul (.var 16) (.pow2 (.var 8)))) (.var 13))
   (.bind (.ite (.eq (.var 9) (.lit 4)) (.wrap .u32 (.mul (.var 16) (.pow2 (.var 8)))) (.var 14))
   (.bind (.ite (.eq (.var 9) (.lit 5)) (.wrap .u32 (.mul (.var 16) (.pow2 (.var 8)))) (.var 15))
   (.ite (.lt (.var 7) (.var 9))
    (.need [(.b (.le (.lit 0) (.sub (.sub (.var 9) (.var 7)) (.lit 1))))]
    (.bind (.ite (.eq (.var 9) (.lit 0)) (.var 17) (.ite (.eq (.var 9) (.lit 1)) (.var 18) (.ite (.eq (.var 9) (.lit 2)) (.var 19) (.ite (.eq (.var 9) (.lit 3)) (.var 20) (.ite (.eq (.var 9) (.lit 4)) (.var 21) (.var 22))))))
    (.bind (.ite (.eq (.sub (.sub (.var 9) (.var 7)) (.lit 1)) (.lit 0)) (.var 0) (.ite (.eq (.sub (.sub (.var 9) (.var 7)) (.lit 1)) (.lit 1)) (.var 1) (.ite (.eq (.sub (.sub (.var 9) (.var 7)) (.lit 1)) (.lit 2)) (.var 2) (.ite (.eq (.sub (.sub (.var 9) (.var 7)) (.lit 1)) (.lit 3)) (.var 3) (.ite (.eq (.sub (.sub (.var 9) (.var 7)) (.lit 1)) (.lit 4)) (.var 4) (.var 5))))))
    (.bind (.ite (.eq (.var 9) (.lit 0)) (.bits .or .u32 (.ite (.eq (.var 9) (.lit 0)) (.var 17) (.ite (.eq (.var 9) (.lit 1)) (.var 18) (.ite (.eq (.var 9) (.lit 2)) (.var 19) (.ite (.eq (.var 9) (.lit 3)) (.var 20) (.ite (.eq (.var 9) (.lit 4)) (.var 21) (.var 22)))))) (.div (.ite (.eq (.sub (.sub (.var 9) (.var 7)) (.lit 1)) (.lit 0)) (.var 0) (.ite (.eq (.sub (.sub (.var 9) (.var 7)) (.lit 1)) (.lit 1)) (.var 1) (.ite (.eq (.sub (.sub (.var 9) (.var 7)) (.lit 1)) (.lit 2)) (.var 2) (.ite (.eq (.sub (.sub (.var 9) (.var 7)) (.lit 1)) (.lit 3)) (.var 3) (.ite (.eq (.sub (.sub (.var 9) (.var 7)) (.lit 1)) (.lit 4)) (.var 4) (.var 5)))))) (.pow2 (.sub (.lit 32) (.var 8))))) (.var 17))
    (.bind (.ite (.eq (.var 9) (.lit 1)) (.bits .or .u32 (.ite (.eq (.var 9) (.lit 0)) (.var 17) (.ite (.eq (.var 9) (.lit 1)) (.var 18) (.ite (.eq (.var 9) (.lit 2)) (.var 19) (.ite (.eq (.var 9) (.lit 3)) (.var 20) (.ite (.eq (.var 9) (.lit 4)) (.var 21) (.var 22)))))) (.div (.ite (.eq (.sub (.sub (.var 9) (.var 7)) (.lit 1)) (.lit 0)) (.var 0) (.ite (.eq (.sub (.sub (.var 9) (.var 7)) (.lit 1)) (.lit 1)) (.var 1) (.ite (.eq (.sub (.sub (.var 9) (.var 7)) (.lit 1)) (.lit 2)) (.var 2) (.ite (.eq (.sub (.sub (.var 9) (.var 7)) (.lit 1)) (.lit 3)) (.var 3) (.ite (.eq (.sub (.sub (.var 9) (.var 7)) (.lit 1)) (.lit 4)) (.var 4) (.var 5)))))) (.pow2 (.sub (.lit 32) (.var 8))))) (.var 18))
    (.bind (.ite (.eq (.var 9) (.lit 2)) (.bits .or .u32 (.ite (.eq (.var 9) (.lit 0)) (.var 17) (.ite (.eq (.var 9) (.lit 1)) (.var 18) (.ite (.eq (.var 9) (.lit 2)) (.var 19) (.ite (.eq (.var 9) (.lit 3)) (.var 20) (.ite (.eq (.var 9) (.lit 4)) (.var 21) (.var 22)))))) (.div (.ite (.eq (.sub (.sub (.var 9) (.var 7)) (.lit 1)) (.lit 0)) (.var 0) (.ite (.eq (.sub (.sub (.var 9) (.var 7)) (.lit 1)) (.lit 1)) (.var 1) (.ite (.eq (.sub (.sub (.var 9) (.var 7)) (.lit 1)) (.lit 2)) (.var 2) (.ite (.eq (.sub (.sub (.var 9) (.var 7)) (.lit 1)) (.lit 3)) (.var 3) (.ite (.eq (.sub (.sub (.var 9) (.var 7)) (.lit 1)) (.lit 4)) (.var 4) (.var 5)))))) (.pow2 (.sub (.lit 32) (.var 8))))) (.var 19))
    (.bind (.ite (.eq (.var 9) (.lit 3)) (.bits .or .u32 (.ite (.eq (.var 9) (.lit 0)) (.var 17) (.ite (.eq (.var 9) (.lit 1)) (.var 18) (.ite (.eq (.var 9) (.lit 2)) (.var 19) (.ite (.eq (.var 9) (.lit 3)) (.var 20) (.ite (.eq (.var 9) (.lit 4)) (.var 21) (.var 22)))))) (.div (.ite (.eq (.sub (.sub (.var 9) (.var 7)) (.lit 1)) (.lit 0)) (.var 0) (.ite (.eq (.sub (.sub (.var 9) (.var 7)) (.lit 1)) (.lit 1)) (.var 1) (.ite (.eq (.sub (.sub (.var 9) (.var 7)) (.lit 1)) (.lit 2)) (.var 2) (.ite (.eq (.sub (.sub (.var 9) (.var 7)) (.lit 1)) (.lit 3)) (.var 3) (.ite (.eq (.sub (.sub (.var 9) (.var 7)) (.lit 1)) (.lit 4)) (.var 4) (.var 5)))))) (.pow2 (.sub (.lit 32) (.var 8))))) (.var 20))
    (.bind (.ite (.eq (.var 9) (.lit 4)) (.bits .or .u32 (.ite (.eq (.var 9) (.lit 0)) (.var 17) (.ite (.eq (.var 9) (.lit 1)) (.var 18) (.ite (.eq (.var 9) (.lit 2)) (.var 19) (.ite (.eq (.var 9) (.lit 3)) (.var 20) (.ite (.eq (.var 9) (.lit 4)) (.var 21) (.var 22)))))) (.div (.ite (.eq (.sub (.sub (.var 9) (.var 7)) (.lit 1)) (.lit 0)) (.var 0) (.ite (.eq (.sub (.sub (.var 9) (.var 7)) (.lit 1)) (.lit 1)) (.var 1) (.ite (.eq (.sub (.sub (.var 9) (.var 7)) (.lit 1)) (.lit 2)) (.var 2) (.ite (.eq (.sub (.sub (.var 9) (.var 7)) (.lit 1)) (.lit 3)) (.var 3) (.ite (.eq (.sub (.sub (.var 9) (.var 7)) (.lit 1)) (.lit 4)) (.var 4) (.var 5)))))) (.pow2 (.sub (.lit 32) (.var 8))))) (.var 21))
    (.bind (.ite (.eq (.var 9) (.lit 5)) (.bits .or .u32 (.ite (.eq (.var 9) (.lit 0)) (.var 17) (.ite (.eq (.var 9) (.lit 1)) (.var 18) (.ite (.eq (.var 9) (.lit 2)) (.var 19) (.ite (.eq (.var 9) (.lit 3)) (.var 20) (.ite (.eq (.var 9) (.lit 4)) (.var 21) (.var 22)))))) (.div (.ite (.eq (.sub (.sub (.var 9) (.var 7)) (.lit 1)) (.lit 0)) (.var 0) (.ite (.eq (.sub (.sub (.var 9) (.var 7)) (.lit 1)) (.lit 1)) (.var 1) (.ite (.eq (.sub (.sub (.var 9) (.var 7)) (.lit 1)) (.lit 2)) (.var 2) (.ite (.eq (.sub (.sub (.var 9) (.var 7)) (.lit 1)) (.lit 3)) (.var 3) (.ite (.eq (.sub (.sub (.var 9) (.var 7)) (.lit 1)) (.lit 4)) (.var 4) (.var 5)))))) (.pow2 (.sub (.lit 32) (.var 8))))) (.var 22))
    (.again 0 9 [⟨0, 6⟩, ⟨0, 4294967295⟩, ⟨0, 4294967295⟩, ⟨0, 4294967295⟩, ⟨0, 4294967295⟩, ⟨0, 4294967295⟩, ⟨0, 4294967295⟩] [(.add (.var 9) (.lit 1)), (.var 25), (.var 26), (.var 27), (.var 28), (.var 29), (.var 30)]))))))))))
    (.again 0 9 [⟨0, 6⟩, ⟨0, 4294967295⟩, ⟨0, 4294967295⟩, ⟨0, 4294967295⟩, ⟨0, 4294967295⟩, ⟨0, 4294967295⟩, ⟨0, 4294967295⟩] [(.add (.var 9) (.lit 1)), (.var 17), (.var 18), (.var 19), (.var 20), (.var 21), (.var 22)]))))))))))
   (.fin (.e (.var 10) (.e (.var 11) (.e (.var 12) (.e (.var 13) (.e (.var 14) (.e (.var 15) .nil)))))))))))
theorem v52 : vcOfI ⟨c52, [(4, ⟨0, [8], [2], [14, 15, 18, 19, 20, 21, 22, 23, 24, 25, 26, 27, 28, 29, 30, 31, 32, 33, 34, 35, 36, 37, 38, 39, 40, 41, 42, 43, 16, 17], [⟨0, 6⟩, ⟨0, 4294967295⟩, ⟨0, 4294967295⟩, ⟨0, 4294967295⟩, ⟨0, 4294967295⟩, ⟨0, 4294967295⟩, ⟨0, 4294967295⟩]⟩)]⟩ iv52 250 Try.f52 s52 = t52 := by kernel_rfl
set_option linter.unusedVariables false in
def p52 (T : Tab) (I : Nat → List Int → List Int → Prop) (M : Nat → List Int → List Int → Nat) (pre : Nat → List Int → Prop) (post : List Int → Prop) (v0 v1 v2 v3 v4 v5 v6 : Int) : Prop :=
 ∀ v7 : Int, v7 = (v6 / 32) →
 ∀ v8 : Int, v8 = (v6 % 32) →
 ((allHas [⟨0, 6⟩, ⟨0, 4294967295⟩, ⟨0, 4294967295⟩, ⟨0, 4294967295⟩, ⟨0, 4294967295⟩, ⟨0, 4294967295⟩, ⟨0, 4294967295⟩] [v7, 0, 0, 0, 0, 0, 0] ∧ I 0 [v0, v1, v2, v3, v4, v5, v6, v7, v8] [v7, 0, 0, 0, 0, 0, 0]) ∧ ∀ v9 v10 v11 v12 v13 v14 v15 : Int, allHas [⟨0, 6⟩, ⟨0, 4294967295⟩, ⟨0, 4294967295⟩, ⟨0, 4294967295⟩, ⟨0, 4294967295⟩, ⟨0, 4294967295⟩, ⟨0, 4294967295⟩] [v9, v10, v11, v12, v13, v14, v15] → I 0 [v0, v1, v2, v3, v4, v5, v6, v7, v8] [v9, v10, v11, v12, v13, v14, v15] →
  ((decide ((v9 : Int) < 6) = true →
   ((decide ((0 : Int) ≤ (v9 - v7)) = true) ∧ ((decide ((0 : Int) ≤ (v9 - v7)) = true) →
   ∀ v16 : Int, v16 = (if decide (((v9 - v7) : Int) = 0) = true then v0 else (if decide (((v9 - v7) : Int) = 1) = true then v1 else (if decide (((v9 - v7) : Int) = 2) = true then v2 else (if decide (((v9 - v7) : Int) = 3) = true then v3 else (if decide (((v9 - v7) : Int) = 4) = true then v4 else v5))))) →
   ∀ v17 : Int, v17 = (if decide ((v9 : Int) = 0) = true then (IntKind.wrap .u32 (v16 * (2 ^ (v8 : Int).toNat))) else v10) →
   ∀ v18 : Int, v18 = (if decide ((v9 : Int) = 1) = true then (IntKind.wrap .u32 (v16 * (2 ^ (v8 : Int).toNat))) else v11) →
   ∀ v19 : Int, v19 = (if decide ((v9 : Int) = 2) = true then (IntKind.wrap .u32 (v16 * (2 ^ (v8 : Int).toNat))) else v12) →
   ∀ v20 : Int, v20 = (if decide ((v9 : Int) = 3) = true then (IntKind.wrap .u32 (v16 * (2 ^ (v8 : Int).toNat))) else v13) →
   ∀ v21 : Int, v21 = (if decide ((v9 : Int) = 4) = true then (IntKind.wrap .u32 (v16 * (2 ^ (v8 : Int).toNat))) else v14) →
   ∀ v22 : Int, v22 = (if decide ((v9 : Int) = 5) = true then (IntKind.wrap .u32 (v16 * (2 ^ (v8 : Int).toNat))) else v15) →
   ((decide ((v7 : Int) < v9) = true →
    ((decide ((0 : Int) ≤ ((v9 - v7) - 1)) = true) ∧ ((decide ((0 : Int) ≤ ((v9 - v7) - 1)) = true) →
    ∀ v23 : Int, v23 = (if decide ((v9 : Int) = 0) = true then v17 else (if decide ((v9 : Int) = 1) = true then v18 else (if decide ((v9 : Int) = 2) = true then v19 else (if decide ((v9 : Int) = 3) = true then v20 else (if decide ((v9 : Int) = 4) = true then v21 else v22))))) →
    ∀ v24 : Int, v24 = (if decide ((((v9 - v7) - 1) : Int) = 0) = true then v0 else (if decide ((((v9 - v7) - 1) : Int) = 1) = true then v1 else (if decide ((((v9 - v7) - 1) : Int) = 2) = true then v2 else (if decide ((((v9 - v7) - 1) : Int) = 3) = true then v3 else (if decide ((((v9 - v7) - 1) : Int) = 4) = true then v4 else v5))))) →
    ∀ v25 : Int, v25 = (if decide ((v9 : Int) = 0) = true then (bitsInt .or .u32 (if decide ((v9 : Int) = 0) = true then v17 else (if decide ((v9 : Int) = 1) = true then v18 else (if decide ((v9 : Int) = 2) = true then v19 else (if decide ((v9 : Int) = 3) = true then v20 else (if decide ((v9 : Int) = 4) = true then v21 else v22))))) ((if decide ((((v9 - v7) - 1) : Int) = 0) = true then v0 else (if decide ((((v9 - v7) - 1) : Int) = 1) = true then v1 else (if decide ((((v9 - v7) - 1) : Int) = 2) = true then v2 else (if decide ((((v9 - v7) - 1) : Int) = 3) = true then v3 else (if decide ((((v9 - v7) - 1) : Int) = 4) = true then v4 else v5))))) / (2 ^ ((32 - v8) : Int).toNat))) else v17) →
    ∀ v26 : Int, v26 = (if decide ((v9 : Int) = 1) = true then (bitsInt .or .u32 (if decide ((v9 : Int) = 0) = true then v17 else (if decide ((v9 : Int) = 1) = true then v18 else (if decide ((v9 : Int) = 2) = true then v19 else (if decide ((v9 : Int) = 3) = true then v20 else (if decide ((v9 : Int) = 4) = true then v21 else v22))))) ((if decide ((((v9 - v7) - 1) : Int) = 0) = true then v0 else (if decide ((((v9 - v7) - 1) : Int) = 1) = true then v1 else (if decide ((((v9 - v7) - 1) : Int) = 2) = true then v2 else (if decide ((((v9 - v7) - 1) : Int) = 3) = true then v3 else (if decide ((((v9 - v7) - 1) : Int) = 4) = true then v4 else v5))))) / (2 ^ ((32 - v8) : Int).toNat))) else v18) →
    ∀ v27 : Int, v27 = (if decide ((v9 : Int) = 2) = true then (bitsInt .or .u32 (if decide ((v9 : Int) = 0) = true then v17 else (if decide ((v9 : Int) = 1) = true then v18 else (if decide ((v9 : Int) = 2) = true then v19 else (if decide ((v9 : Int) = 3) = true then v20 else (if decide ((v9 : Int) = 4) = true then v21 else v22))))) ((if decide ((((v9 - v7) - 1) : Int) = 0) = true then v0 else (if decide ((((v9 - v7) - 1) : Int) = 1) = true then v1 else (if decide ((((v9 - v7) - 1) : Int) = 2) = true then v2 else (if decide ((((v9 - v7) - 1) : Int) = 3) = true then v3 else (if decide ((((v9 - v7) - 1) : Int) = 4) = true then v4 else v5))))) / (2 ^ ((32 - v8) : Int).toNat))) else v19) →
    ∀ v28 : Int, v28 = (if decide ((v9 : Int) = 3) = true then (bitsInt .or .u32 (if decide ((v9 : Int) = 0) = true then v17 else (if decide ((v9 : Int) = 1) = true then v18 else (if decide ((v9 : Int) = 2) = true then v19 else (if decide ((v9 : Int) = 3) = true then v20 else (if decide ((v9 : Int) = 4) = true then v21 else v22))))) ((if decide ((((v9 - v7) - 1) : Int) = 0) = true then v0 else (if decide ((((v9 - v7) - 1) : Int) = 1) = true then v1 else (if decide ((((v9 - v7) - 1) : Int) = 2) = true then v2 else (if decide ((((v9 - v7) - 1) : Int) = 3) = true then v3 else (if decide ((((v9 - v7) - 1) : Int) = 4) = true then v4 else v5))))) / (2 ^ ((32 - v8) : Int).toNat))) else v20) →
    ∀ v29 : Int, v29 = (if decide ((v9 : Int) = 4) = true then (bitsInt .or .u32 (if decide ((v9 : Int) = 0) = true then v17 else (if decide ((v9 : Int) = 1) = true then v18 else (if decide ((v9 : Int) = 2) = true then v19 else (if decide ((v9 : Int) = 3) = true then v20 else (if decide ((v9 : Int) = 4) = true then v21 else v22))))) ((if decide ((((v9 - v7) - 1) : Int) = 0) = true then v0 else (if decide ((((v9 - v7) - 1) : Int) = 1) = true then v1 else (if decide ((((v9 - v7) - 1) : Int) = 2) = true then v2 else (if decide ((((v9 - v7) - 1) : Int) = 3) = true then v3 else (if decide ((((v9 - v7) - 1) : Int) = 4) = true then v4 else v5))))) / (2 ^ ((32 - v8) : Int).toNat))) else v21) →
    ∀ v30 : Int, v30 = (if decide ((v9 : Int) = 5) = true then (bitsInt .or .u32 (if decide ((v9 : Int) = 0) = true then v17 else (if decide ((v9 : Int) = 1) = true then v18 else (if decide ((v9 : Int) = 2) = true then v19 else (if decide ((v9 : Int) = 3) = true then v20 else (if decide ((v9 : Int) = 4) = true then v21 else v22))))) ((if decide ((((v9 - v7) - 1) : Int) = 0) = true then v0 else (if decide ((((v9 - v7) - 1) : Int) = 1) = true then v1 else (if decide ((((v9 - v7) - 1) : Int) = 2) = true then v2 else (if decide ((((v9 - v7) - 1) : Int) = 3) = true then v3 else (if decide ((((v9 - v7) - 1) : Int) = 4) = true then v4 else v5))))) / (2 ^ ((32 - v8) : Int).toNat))) else v22) →
    (allHas [⟨0, 6⟩, ⟨0, 4294967295⟩, ⟨0, 4294967295⟩, ⟨0, 4294967295⟩, ⟨0, 4294967295⟩, ⟨0, 4294967295⟩, ⟨0, 4294967295⟩] [(v9 + 1), v25, v26, v27, v28, v29, v30] ∧ I 0 [v0, v1, v2, v3, v4, v5, v6, v7, v8] [(v9 + 1), v25, v26, v27, v28, v29, v30] ∧ M 0 [v0, v1, v2, v3, v4, v5, v6, v7, v8] [(v9 + 1), v25, v26, v27, v28, v29, v30] < M 0 [v0, v1, v2, v3, v4, v5, v6, v7, v8] [v9, v10, v11, v12, v13, v14, v15])))) ∧ (decide ((v7 : Int) < v9) = false →
    (allHas [⟨0, 6⟩, ⟨0, 4294967295⟩, ⟨0, 4294967295⟩, ⟨0, 4294967295⟩, ⟨0, 4294967295⟩, ⟨0, 4294967295⟩, ⟨0, 4294967295⟩] [(v9 + 1), v17, v18, v19, v20, v21, v22] ∧ I 0 [v0, v1, v2, v3, v4, v5, v6, v7, v8] [(v9 + 1), v17, v18, v19, v20, v21, v22] ∧ M 0 [v0, v1, v2, v3, v4, v5, v6, v7, v8] [(v9 + 1), v17, v18, v19, v20, v21, v22] < M 0 [v0, v1, v2, v3, v4, v5, v6, v7, v8] [v9, v10, v11, v12, v13, v14, v15])))))) ∧ (decide ((v9 : Int) < 6) = false →
   post [v10, v11, v12, v13, v14, v15])))
theorem q52 (T : Tab) (I : Nat → List Int → List Int → Prop) (M : Nat → List Int → List Int → Nat) (pre : Nat → List Int → Prop) (post : List Int → Prop) (v0 v1 v2 v3 v4 v5 v6 : Int) : t52.plain T (presL pre I M) post ⟨[v0, v1, v2, v3, v4, v5, v6], []⟩ = p52 T I M pre post v0 v1 v2 v3 v4 v5 v6 := by kernel_rfl
theorem k52 (T : Tab) (I : Nat → List Int → List Int → Prop) (M : Nat → List Int → List Int → Nat) (pre : Nat → List Int → Prop) (hs : SubSig T c52.sigs) (ht : Tot pre c52.sigs) (hg : T.sig 52 = some s52) (hC : CtAll Try.prog T.fns (pres pre) c52.sigs) (hi : ∀ xs, pre 52 xs → allHas iv52 xs)
    (h : ∀ (v0 v1 v2 v3 v4 v5 v6 : Int), (0 ≤ v0 ∧ v0 ≤ 4294967295) → (0 ≤ v1 ∧ v1 ≤ 4294967295) → (0 ≤ v2 ∧ v2 ≤ 4294967295) → (0 ≤ v3 ∧ v3 ≤ 4294967295) → (0 ≤ v4 ∧ v4 ≤ 4294967295) → (0 ≤ v5 ∧ v5 ≤ 4294967295) → (0 ≤ v6 ∧ v6 ≤ 191) → pre 52 [v0, v1, v2, v3, v4, v5, v6] → p52 T I M pre (fun ys => ys = T.fn 52 [v0, v1, v2, v3, v4, v5, v6]) v0 v1 v2 v3 v4 v5 v6) : CT Try.prog T.fns (pres pre) 52 s52 :=
  T.ctq (F := ⟨c52, [(4, ⟨0, [8], [2], [14, 15, 18, 19, 20, 21, 22, 23, 24, 25, 26, 27, 28, 29, 30, 31, 32, 33, 34, 35, 36, 37, 38, 39, 40, 41, 42, 43, 16, 17], [⟨0, 6⟩, ⟨0, 4294967295⟩, ⟨0, 4294967295⟩, ⟨0, 4294967295⟩, ⟨0, 4294967295⟩, ⟨0, 4294967295⟩, ⟨0, 4294967295⟩]⟩)]⟩) (fuel := 250) v52 Try.checked.mixed hs ht hg hC Try.func52 I M (fun xs _ h => hi xs h) fun xs hx hp => by
    match xs, hx, hp with
    | [v0, v1, v2, v3, v4, v5, v6], hx, hp => rw [q52]; exact h v0 v1 v2 v3 v4 v5 v6 hx.1 hx.2.1 hx.2.2.1 hx.2.2.2.1 hx.2.2.2.2.1 hx.2.2.2.2.2.1 hx.2.2.2.2.2.2.1 hp

/-- (loop.example/g01242/impl.limbs).down -/
noncomputable def c54 : Cfg := ⟨Try.prog, []⟩
def iv54 : List Iv := [⟨0, 4294967295⟩, ⟨0, 4294967295⟩, ⟨0, 4294967295⟩, ⟨0, 4294967295⟩, ⟨0, 4294967295⟩, ⟨0, 4294967295⟩, ⟨0, 191⟩]
def t54 : VC :=
 (.bind (.div (.var 6) (.lit 32))
 (.bind (.mod (.var 6) (.lit 32))
 (.loop 0 [(.lit 0), (.lit 0), (.lit 0), (.lit 0), (.lit 0), (.lit 0), (.lit 0)] [⟨0, 6⟩, ⟨0, 4294967295⟩, ⟨0, 4294967295⟩, ⟨0, 4294967295⟩, ⟨0, 4294967295⟩, ⟨0, 4294967295⟩, ⟨0, 4294967295⟩]
  (.ite (.lt (.add (.var 9) (.var 7)) (.lit 6))
   (.need [(.b (.lt (.add (.var 9) (.var 7)) (.lit 6)))]
   (.bind (.ite (.eq (.add (.var 9) (.var 7)) (.lit 0)) (.var 0) (.ite (.eq (.add (.var 9) (.var 7)) (.lit 1)) (.var 1) (.ite (.eq (.add (.var 9) (.var 7)) (.lit 2)) (.var 2) (.ite (.eq (.add (.var 9) (.var 7)) (.lit 3)) (.var 3) (.ite (.eq (.add (.var 9) (.var 7)) (.lit 4)) (.var 4) (.var 5))))))
   (.need [(.b (.lt (.var 9) (.lit 6)))]
   (.bind (.ite (.eq (.var 9) (.lit 0)) (.div (.var 16) (.pow2 (.var 8))) (.var 10))
   (.bind (.ite (.eq (.var 9) (.lit 1)) (.div (.var 16) (.pow2 (.var 8))) (.var 11))
   (.bind (.ite (.eq (.var 9) (.lit 2)) (.div (.var 16) (.pow2 (.var 8))) (.var 12))
   (.bind (.ite (.eq (.var 9) (.lit 3)) (.div (.var 16) (.pow2 (.var 8))) (.var 13))
   (.bind (.ite (.eq (.var 9) (.lit 4)) (.div (.var 16) (.pow2 (.var 8))) (.var 14))
   (.bind (.ite (.eq (.var 9) (.lit 5)) (.div (.var 16) (.pow2 (.var 8))) (.var 15))
   (.ite (.lt (.add (.add (.var 9) (.var 7)) (.lit 1)) (.lit 6))
    (.need [(.b (.lt (.var 9) (.lit 6))), (.b (.lt (.add (.add (.var 9) (.var 7)) (.lit 1)) (.lit 6))), (.b (.lt (.var 9) (.lit 6)))]
    (.bind (.ite (.eq (.var 9) (.lit 0)) (.var 17) (.ite (.eq (.var 9) (.lit 1)) (.var 18) (.ite (.eq (.var 9) (.lit 2)) (.var 19) (.ite (.eq (.var 9) (.lit 3)) (.var 20) (.ite (.eq (.var 9) (.lit 4)) (.var 21) (.var 22))))))
    (.bind (.ite (.eq (.add (.add (.var 9) (.var 7)) (.lit 1)) (.lit 0)) (.var 0) (.ite (.eq (.add (.add (.var 9) (.var 7)) (.lit 1)) (.lit 1)) (.var 1) (.ite (.eq (.add (.add (.var 9) (.var 7)) (.lit 1)) (.lit 2)) (.var 2) (.ite (.eq (.add (.add (.var 9) (.var 7)) (.lit 1)) (.lit 3)) (.var 3) (.ite (.eq (.add (.add (.var 9) (.var 7)) (.lit 1)) (.lit 4)) (.var 4) (.var 5))))))
    (.bind (.ite (.eq (.var 9) (.lit 0)) (.bits .or .u32 (.ite (.eq (.var 9) (.lit 0)) (.var 17) (.ite (.eq (.var 9) (.lit 1)) (.var 18) (.ite (.eq (.var 9) (.lit 2)) (.var 19) (.ite (.eq (.var 9) (.lit 3)) (.var 20) (.ite (.eq (.var 9) (.lit 4)) (.var 21) (.var 22)))))) (.wrap .u32 (.mul (.ite (.eq (.add (.add (.var 9) (.var 7)) (.lit 1)) (.lit 0)) (.var 0) (.ite (.eq (.add (.add (.var 9) (.var 7)) (.lit 1)) (.lit 1)) (.var 1) (.ite (.eq (.add (.add (.var 9) (.var 7)) (.lit 1)) (.lit 2)) (.var 2) (.ite (.eq (.add (.add (.var 9) (.var 7)) (.lit 1)) (.lit 3)) (.var 3) (.ite (.eq (.add (.add (.var 9) (.var 7)) (.lit 1)) (.lit 4)) (.var 4) (.var 5)))))) (.pow2 (.sub (.lit 32) (.var 8)))))) (.var 17))
    (.bind (.ite (.eq (.var 9) (.lit 1)) (.bits .or .u32 (.ite (.eq (.var 9) (.lit 0)) (.var 17) (.ite (.eq (.var 9) (.lit 1)) (.var 18) (.ite (.eq (.var 9) (.lit 2)) (.var 19) (.ite (.eq (.var 9) (.lit 3)) (.var 20) (.ite (.eq (.var 9) (.lit 4)) (.var 21) (.var 22)))))) (.wrap .u32 (.mul (.ite (.eq (.add (.add (.var 9) (.var 7)) (.lit 1)) (.lit 0)) (.var 0) (.ite (.eq (.add (.add (.var 9) (.var 7)) (.lit 1)) (.lit 1)) (.var 1) (.ite (.eq (.add (.add (.var 9) (.var 7)) (.lit 1)) (.lit 2)) (.var 2) (.ite (.eq (.add (.add (.var 9) (.var 7)) (.lit 1)) (.lit 3)) (.var 3) (.ite (.eq (.add (.add (.var 9) (.var 7)) (.lit 1)) (.lit 4)) (.var 4) (.var 5)))))) (.pow2 (.sub (.lit 32) (.var 8)))))) (.var 18))
    (.bind (.ite (.eq (.var 9) (.lit 2)) (.bits .or .u32 (.ite (.eq (.var 9) (.lit 0)) (.var 17) (.ite (.eq (.var 9) (.lit 1)) (.var 18) (.ite (.eq (.var 9) (.lit 2)) (.var 19) (.ite (.eq (.var 9) (.lit 3)) (.var 20) (.ite (.eq (.var 9) (.lit 4)) (.var 21) (.var 22)))))) (.wrap .u32 (.mul (.ite (.eq (.add (.add (.var 9) (.var 7)) (.lit 1)) (.lit 0)) (.var 0) (.ite (.eq (.add (.add (.var 9) (.var 7)) (.lit 1)) (.lit 1)) (.var 1) (.ite (.eq (.add (.add (.var 9) (.var 7)) (.lit 1)) (.lit 2)) (.var 2) (.ite (.eq (.add (.add (.var 9) (.var 7)) (.lit 1)) (.lit 3)) (.var 3) (.ite (.eq (.add (.add (.var 9) (.var 7)) (.lit 1)) (.lit 4)) (.var 4) (.var 5)))))) (.pow2 (.sub (.lit 32) (.var 8)))))) (.var 19))
    (.bind (.ite (.eq (.var 9) (.lit 3)) (.bits .or .u32 (.ite (.eq (.var 9) (.lit 0)) (.var 17) (.ite (.eq (.var 9) (.lit 1)) (.var 18) (.ite (.eq (.var 9) (.lit 2)) (.var 19) (.ite (.eq (.var 9) (.lit 3)) (.var 20) (.ite (.eq (.var 9) (.lit 4)) (.var 21) (.var 22)))))) (.wrap .u32 (.mul (.ite (.eq (.add (.add (.var 9) (.var 7)) (.lit 1)) (.lit 0)) (.var 0) (.ite (.eq (.add (.add (.var 9) (.var 7)) (.lit 1)) (.lit 1)) (.var 1) (.ite (.eq (.add (.add (.var 9) (.var 7)) (.lit 1)) (.lit 2)) (.var 2) (.ite (.eq (.add (.add (.var 9) (.var 7)) (.lit 1)) (.lit 3)) (.var 3) (.ite (.eq (.add (.add (.var 9) (.var 7)) (.lit 1)) (.lit 4)) (.var 4) (.var 5)))))) (.pow2 (.sub (.lit 32) (.var 8)))))) (.var 20))
    (.bind (.ite (.eq (.var 9) (.lit 4)) (.bits .or .u32 (.ite (.eq (.var 9) (.lit 0)) (.var 17) (.ite (.eq (.var 9) (.lit 1)) (.var 18) (.ite (.eq (.var 9) (.lit 2)) (.var 19) (.ite (.eq (.var 9) (.lit 3)) (.var 20) (.ite (.eq (.var 9) (.lit 4)) (.var 21) (.var 22)))))) (.wrap .u32 (.mul (.ite (.eq (.add (.add (.var 9) (.var 7)) (.lit 1)) (.lit 0)) (.var 0) (.ite (.eq (.add (.add (.var 9) (.var 7)) (.lit 1)) (.lit 1)) (.var 1) (.ite (.eq (.add (.add (.var 9) (.var 7)) (.lit 1)) (.lit 2)) (.var 2) (.ite (.eq (.add (.add (.var 9) (.var 7)) (.lit 1)) (.lit 3)) (.var 3) (.ite (.eq (.add (.add (.var 9) (.var 7)) (.lit 1)) (.lit 4)) (.var 4) (.var 5)))))) (.pow2 (.sub (.lit 32) (.var 8)))))) (.var 21))
    (.bind (.ite (.eq (.var 9) (.lit 5)) (.bits .or .u32 (.ite (.eq (.var 9) (.lit 0)) (.var 17) (.ite (.eq (.var 9) (.lit 1)) (.var 18) (.ite (.eq (.var 9) (.lit 2)) (.var 19) (.ite (.eq (.var 9) (.lit 3)) (.var 20) (.ite (.eq (.var 9) (.lit 4)) (.var 21) (.var 22)))))) (.wrap .u32 (.mul (.ite (.eq (.add (.add (.var 9) (.var 7)) (.lit 1)) (.lit 0)) (.var 0) (.ite (.eq (.add (.add (.var 9) (.var 7)) (.lit 1)) (.lit 1)) (.var 1) (.ite (.eq (.add (.add (.var 9) (.var 7)) (.lit 1)) (.lit 2)) (.var 2) (.ite (.eq (.add (.add (.var 9) (.var 7)) (.lit 1)) (.lit 3)) (.var 3) (.ite (.eq (.add (.add (.var 9) (.var 7)) (.lit 1)) (.lit 4)) (.var 4) (.var 5)))))) (.pow2 (.sub (.lit 32) (.var 8)))))) (.var 22))
    (.again 0 9 [⟨0, 6⟩, ⟨0, 4294967295⟩, ⟨0, 4294967295⟩, ⟨0, 4294967295⟩, ⟨0, 4294967295⟩, ⟨0, 4294967295⟩, ⟨0, 4294967295⟩] [(.add (.var 9) (.lit 1)), (.var 25), (.var 26), (.var 27), (.var 28), (.var 29), (.var 30)]))))))))))
    (.again 0 9 [⟨0, 6⟩, ⟨0, 4294967295⟩, ⟨0, 4294967295⟩, ⟨0, 4294967295⟩, ⟨0, 4294967295⟩, ⟨0, 4294967295⟩, ⟨0, 4294967295⟩] [(.add (.var 9) (.lit 1)), (.var 17), (.var 18), (.var 19), (.var 20), (.var 21), (.var 22)])))))))))))
   (.fin (.e (.var 10) (.e (.var 11) (.e (.var 12) (.e (.var 13) (.e (.var 14) (.e (.var 15) .nil)))))))))))
theorem v54 : vcOfI ⟨c54, [(4, ⟨0, [8], [2], [13, 14, 15, 16, 19, 20, 21, 22, 23, 24, 25, 26, 27, 28, 29, 30, 31, 32, 33, 34, 35, 36, 37, 38, 39, 40, 41, 42, 43, 44, 45, 46, 17, 18], [⟨0, 6⟩, ⟨0, 4294967295⟩, ⟨0, 4294967295⟩, ⟨0, 4294967295⟩, ⟨0, 4294967295⟩, ⟨0, 4294967295⟩, ⟨0, 4294967295⟩]⟩)]⟩ iv54 250 Try.f54 s54 = t54 := by kernel_rfl
set_option linter.unusedVariables false in
def p54 (T : Tab) (I : Nat → List Int → List Int → Prop) (M : Nat → List Int → List Int → Nat) (pre : Nat → List Int → Prop) (post : List Int → Prop) (v0 v1 v2 v3 v4 v5 v6 : Int) : Prop :=
 ∀ v7 : Int, v7 = (v6 / 32) →
 ∀ v8 : Int, v8 = (v6 % 32) →
 ((allHas [⟨0, 6⟩, ⟨0, 4294967295⟩, ⟨0, 4294967295⟩, ⟨0, 4294967295⟩, ⟨0, 4294967295⟩, ⟨0, 4294967295⟩, ⟨0, 4294967295⟩] [0, 0, 0, 0, 0, 0, 0] ∧ I 0 [v0, v1, v2, v3, v4, v5, v6, v7, v8] [0, 0, 0, 0, 0, 0, 0]) ∧ ∀ v9 v10 v11 v12 v13 v14 v15 : Int, allHas [⟨0, 6⟩, ⟨0, 4294967295⟩, ⟨0, 4294967295⟩, ⟨0, 4294967295⟩, ⟨0, 4294967295⟩, ⟨0, 4294967295⟩, ⟨0, 4294967295⟩] [v9, v10, v11, v12, v13, v14, v15] → I 0 [v0, v1, v2, v3, v4, v5, v6, v7, v8] [v9, v10, v11, v12, v13, v14, v15] →
  ((decide (((v9 + v7) : Int) < 6) = true →
   ((decide (((v9 + v7) : Int) < 6) = true) ∧ ((decide (((v9 + v7) : Int) < 6) = true) →
   ∀ v16 : Int, v16 = (if decide (((v9 + v7) : Int) = 0) = true then v0 else (if decide (((v9 + v7) : Int) = 1) = true then v1 else (if decide (((v9 + v7) : Int) = 2) = true then v2 else (if decide (((v9 + v7) : Int) = 3) = true then v3 else (if decide (((v9 + v7) : Int) = 4) = true then v4 else v5))))) →
   ((decide ((v9 : Int) < 6) = true) ∧ ((decide ((v9 : Int) < 6) = true) →
   ∀ v17 : Int, v17 = (if decide ((v9 : Int) = 0) = true then (v16 / (2 ^ (v8 : Int).toNat)) else v10) →
   ∀ v18 : Int, v18 = (if decide ((v9 : Int) = 1) = true then (v16 / (2 ^ (v8 : Int).toNat)) else v11) →
   ∀ v19 : Int, v19 = (if decide ((v9 : Int) = 2) = true then (v16 / (2 ^ (v8 : Int).toNat)) else v12) →
   ∀ v20 : Int, v20 = (if decide ((v9 : Int) = 3) = true then (v16 / (2 ^ (v8 : Int).toNat)) else v13) →
   ∀ v21 : Int, v21 = (if decide ((v9 : Int) = 4) = true then (v16 / (2 ^ (v8 : Int).toNat)) else v14) →
   ∀ v22 : Int, v22 = (if decide ((v9 : Int) = 5) = true then (v16 / (2 ^ (v8 : Int).toNat)) else v15) →
   ((decide ((((v9 + v7) + 1) : Int) < 6) = true →
    ((decide ((v9 : Int) < 6) = true ∧ decide ((((v9 + v7) + 1) : Int) < 6) = true ∧ decide ((v9 : Int) < 6) = true) ∧ ((decide ((v9 : Int) < 6) = true ∧ decide ((((v9 + v7) + 1) : Int) < 6) = true ∧ decide ((v9 : Int) < 6) = true) →
    ∀ v23 : Int, v23 = (if decide ((v9 : Int) = 0) = true then v17 else (if decide ((v9 : Int) = 1) = true then v18 else (if decide ((v9 : Int) = 2) = true then v19 else (if decide ((v9 : Int) = 3) = true then v20 else (if decide ((v9 : Int) = 4) = true then v21 else v22))))) →
    ∀ v24 : Int, v24 = (if decide ((((v9 + v7) + 1) : Int) = 0) = true then v0 else (if decide ((((v9 + v7) + 1) : Int) = 1) = true then v1 else (if decide ((((v9 + v7) + 1) : Int) = 2) = true then v2 else (if decide ((((v9 + v7) + 1) : Int) = 3) = true then v3 else (if decide ((((v9 + v7) + 1) : Int) = 4) = true then v4 else v5))))) →
    ∀ v25 : Int, v25 = (if decide ((v9 : Int) = 0) = true then (bitsInt .or .u32 (if decide ((v9 : Int) = 0) = true then v17 else (if decide ((v9 : Int) = 1) = true then v18 else (if decide ((v9 : Int) = 2) = true then v19 else (if decide ((v9 : Int) = 3) = true then v20 else (if decide ((v9 : Int) = 4) = true then v21 else v22))))) (IntKind.wrap .u32 ((if decide ((((v9 + v7) + 1) : Int) = 0) = true then v0 else (if decide ((((v9 + v7) + 1) : Int) = 1) = true then v1 else (if decide ((((v9 + v7) + 1) : Int) = 2) = true then v2 else (if decide ((((v9 + v7) + 1) : Int) = 3) = true then v3 else (if decide ((((v9 + v7) + 1) : Int) = 4) = true then v4 else v5))))) * (2 ^ ((32 - v8) : Int).toNat)))) else v17) →
    ∀ v26 : Int, v26 = (if decide ((v9 : Int) = 1) = true then (bitsInt .or .u32 (if decide ((v9 : Int) = 0) = true then v17 else (if decide ((v9 : Int) = 1) = true then v18 else (if decide ((v9 : Int) = 2) = true then v19 else (if decide ((v9 : Int) = 3) = true then v20 else (if decide ((v9 : Int) = 4) = true then v21 else v22))))) (IntKind.wrap .u32 ((if decide ((((v9 + v7) + 1) : Int) = 0) = true then v0 else (if decide ((((v9 + v7) + 1) : Int) = 1) = true then v1 else (if decide ((((v9 + v7) + 1) : Int) = 2) = true then v2 else (if decide ((((v9 + v7) + 1) : Int) = 3) = true then v3 else (if decide ((((v9 + v7) + 1) : Int) = 4) = true then v4 else v5))))) * (2 ^ ((32 - v8) : Int).toNat)))) else v18) →
    ∀ v27 : Int, v27 = (if decide ((v9 : Int) = 2) = true then (bitsInt .or .u32 (if decide ((v9 : Int) = 0) = true then v17 else (if decide ((v9 : Int) = 1) = true then v18 else (if decide ((v9 : Int) = 2) = true then v19 else (if decide ((v9 : Int) = 3) = true then v20 else (if decide ((v9 : Int) = 4) = true then v21 else v22))))) (IntKind.wrap .u32 ((if decide ((((v9 + v7) + 1) : Int) = 0) = true then v0 else (if decide ((((v9 + v7) + 1) : Int) = 1) = true then v1 else (if decide ((((v9 + v7) + 1) : Int) = 2) = true then v2 else (if decide ((((v9 + v7) + 1) : Int) = 3) = true then v3 else (if decide ((((v9 + v7) + 1) : Int) = 4) = true then v4 else v5))))) * (2 ^ ((32 - v8) : Int).toNat)))) else v19) →
    ∀ v28 : Int, v28 = (if decide ((v9 : Int) = 3) = true then (bitsInt .or .u32 (if decide ((v9 : Int) = 0) = true then v17 else (if decide ((v9 : Int) = 1) = true then v18 else (if decide ((v9 : Int) = 2) = true then v19 else (if decide ((v9 : Int) = 3) = true then v20 else (if decide ((v9 : Int) = 4) = true then v21 else v22))))) (IntKind.wrap .u32 ((if decide ((((v9 + v7) + 1) : Int) = 0) = true then v0 else (if decide ((((v9 + v7) + 1) : Int) = 1) = true then v1 else (if decide ((((v9 + v7) + 1) : Int) = 2) = true then v2 else (if decide ((((v9 + v7) + 1) : Int) = 3) = true then v3 else (if decide ((((v9 + v7) + 1) : Int) = 4) = true then v4 else v5))))) * (2 ^ ((32 - v8) : Int).toNat)))) else v20) →
    ∀ v29 : Int, v29 = (if decide ((v9 : Int) = 4) = true then (bitsInt .or .u32 (if decide ((v9 : Int) = 0) = true then v17 else (if decide ((v9 : Int) = 1) = true then v18 else (if decide ((v9 : Int) = 2) = true then v19 else (if decide ((v9 : Int) = 3) = true then v20 else (if decide ((v9 : Int) = 4) = true then v21 else v22))))) (IntKind.wrap .u32 ((if decide ((((v9 + v7) + 1) : Int) = 0) = true then v0 else (if decide ((((v9 + v7) + 1) : Int) = 1) = true then v1 else (if decide ((((v9 + v7) + 1) : Int) = 2) = true then v2 else (if decide ((((v9 + v7) + 1) : Int) = 3) = true then v3 else (if decide ((((v9 + v7) + 1) : Int) = 4) = true then v4 else v5))))) * (2 ^ ((32 - v8) : Int).toNat)))) else v21) →
    ∀ v30 : Int, v30 = (if decide ((v9 : Int) = 5) = true then (bitsInt .or .u32 (if decide ((v9 : Int) = 0) = true then v17 else (if decide ((v9 : Int) = 1) = true then v18 else (if decide ((v9 : Int) = 2) = true then v19 else (if decide ((v9 : Int) = 3) = true then v20 else (if decide ((v9 : Int) = 4) = true then v21 else v22))))) (IntKind.wrap .u32 ((if decide ((((v9 + v7) + 1) : Int) = 0) = true then v0 else (if decide ((((v9 + v7) + 1) : Int) = 1) = true then v1 else (if decide ((((v9 + v7) + 1) : Int) = 2) = true then v2 else (if decide ((((v9 + v7) + 1) : Int) = 3) = true then v3 else (if decide ((((v9 + v7) + 1) : Int) = 4) = true then v4 else v5))))) * (2 ^ ((32 - v8) : Int).toNat)))) else v22) →
    (allHas [⟨0, 6⟩, ⟨0, 4294967295⟩, ⟨0, 4294967295⟩, ⟨0, 4294967295⟩, ⟨0, 4294967295⟩, ⟨0, 4294967295⟩, ⟨0, 4294967295⟩] [(v9 + 1), v25, v26, v27, v28, v29, v30] ∧ I 0 [v0, v1, v2, v3, v4, v5, v6, v7, v8] [(v9 + 1), v25, v26, v27, v28, v29, v30] ∧ M 0 [v0, v1, v2, v3, v4, v5, v6, v7, v8] [(v9 + 1), v25, v26, v27, v28, v29, v30] < M 0 [v0, v1, v2, v3, v4, v5, v6, v7, v8] [v9, v10, v11, v12, v13, v14, v15])))) ∧ (decide ((((v9 + v7) + 1) : Int) < 6) = false →
    (allHas [⟨0, 6⟩, ⟨0, 4294967295⟩, ⟨0, 4294967295⟩, ⟨0, 4294967295⟩, ⟨0, 4294967295⟩, ⟨0, 4294967295⟩, ⟨0, 4294967295⟩] [(v9 + 1), v17, v18, v19, v20, v21, v22] ∧ I 0 [v0, v1, v2, v3, v4, v5, v6, v7, v8] [(v9 + 1), v17, v18, v19, v20, v21, v22] ∧ M 0 [v0, v1, v2, v3, v4, v5, v6, v7, v8] [(v9 + 1), v17, v18, v19, v20, v21, v22] < M 0 [v0, v1, v2, v3, v4, v5, v6, v7, v8] [v9, v10, v11, v12, v13, v14, v15])))))))) ∧ (decide (((v9 + v7) : Int) < 6) = false →
   post [v10, v11, v12, v13, v14, v15])))
theorem q54 (T : Tab) (I : Nat → List Int → List Int → Prop) (M : Nat → List Int → List Int → Nat) (pre : Nat → List Int → Prop) (post : List Int → Prop) (v0 v1 v2 v3 v4 v5 v6 : Int) : t54.plain T (presL pre I M) post ⟨[v0, v1, v2, v3, v4, v5, v6], []⟩ = p54 T I M pre post v0 v1 v2 v3 v4 v5 v6 := by kernel_rfl
theorem k54 (T : Tab) (I : Nat → List Int → List Int → Prop) (M : Nat → List Int → List Int → Nat) (pre : Nat → List Int → Prop) (hs : SubSig T c54.sigs) (ht : Tot pre c54.sigs) (hg : T.sig 54 = some s54) (hC : CtAll Try.prog T.fns (pres pre) c54.sigs) (hi : ∀ xs, pre 54 xs → allHas iv54 xs)
    (h : ∀ (v0 v1 v2 v3 v4 v5 v6 : Int), (0 ≤ v0 ∧ v0 ≤ 4294967295) → (0 ≤ v1 ∧ v1 ≤ 4294967295) → (0 ≤ v2 ∧ v2 ≤ 4294967295) → (0 ≤ v3 ∧ v3 ≤ 4294967295) → (0 ≤ v4 ∧ v4 ≤ 4294967295) → (0 ≤ v5 ∧ v5 ≤ 4294967295) → (0 ≤ v6 ∧ v6 ≤ 191) → pre 54 [v0, v1, v2, v3, v4, v5, v6] → p54 T I M pre (fun ys => ys = T.fn 54 [v0, v1, v2, v3, v4, v5, v6]) v0 v1 v2 v3 v4 v5 v6) : CT Try.prog T.fns (pres pre) 54 s54 :=
  T.ctq (F := ⟨c54, [(4, ⟨0, [8], [2], [13, 14, 15, 16, 19, 20, 21, 22, 23, 24, 25, 26, 27, 28, 29, 30, 31, 32, 33, 34, 35, 36, 37, 38, 39, 40, 41, 42, 43, 44, 45, 46, 17, 18], [⟨0, 6⟩, ⟨0, 4294967295⟩, ⟨0, 4294967295⟩, ⟨0, 4294967295⟩, ⟨0, 4294967295⟩, ⟨0, 4294967295⟩, ⟨0, 4294967295⟩]⟩)]⟩) (fuel := 250) v54 Try.checked.mixed hs ht hg hC Try.func54 I M (fun xs _ h => hi xs h) fun xs hx hp => by
    match xs, hx, hp with
    | [v0, v1, v2, v3, v4, v5, v6], hx, hp => rw [q54]; exact h v0 v1 v2 v3 v4 v5 v6 hx.1 hx.2.1 hx.2.2.1 hx.2.2.2.1 hx.2.2.2.2.1 hx.2.2.2.2.2.1 hx.2.2.2.2.2.2.1 hp

end Go.Proofs.Ytmlmdicdblgcfaa.Sx

namespace Go.Proofs.Ytmlmdicdblgcfaa.Sx
open Go Go.RowKit
/-- (loop.example/g01242/impl.limbs).times -/
noncomputable def c45 : Cfg := ⟨Try.prog, [(86, s86)]⟩
def iv45 : List Iv := [⟨0, 4294967295⟩, ⟨0, 4294967295⟩, ⟨0, 4294967295⟩, ⟨0, 4294967295⟩, ⟨0, 4294967295⟩, ⟨0, 4294967295⟩, ⟨0, 4294967295⟩, ⟨0, 4294967295⟩, ⟨0, 4294967295⟩, ⟨0, 4294967295⟩, ⟨0, 4294967295⟩, ⟨0, 4294967295⟩]
def t45 : VC :=
 (.call 86 (.e (.var 0) (.e (.var 1) (.e (.var 2) (.e (.var 3) (.e (.var 4) (.e (.var 5) .nil)))))) 1
 (.call 86 (.e (.var 6) (.e (.var 7) (.e (.var 8) (.e (.var 9) (.e (.var 10) (.e (.var 11) .nil)))))) 1
 (.ite (.lt (.lit 7) (.add (.var 12) (.var 13)))
  (.fin (.e (.lit 0) (.e (.lit 0) (.e (.lit 0) (.e (.lit 0) (.e (.lit 0) (.e (.lit 0) (.e (.lit 1) .nil))))))))
  (.loop 0 [(.lit 0), (.lit 0), (.lit 0), (.lit 0), (.lit 0), (.lit 0), (.lit 0), (.lit 0)] [⟨0, 1⟩, ⟨0, 6⟩, ⟨0, 4294967295⟩, ⟨0, 4294967295⟩, ⟨0, 4294967295⟩, ⟨0, 4294967295⟩, ⟨0, 4294967295⟩, ⟨0, 4294967295⟩]
   (.ite (.lt (.var 15) (.var 12))
    (.loop 1 [(.lit 0), (.lit 0), (.var 16), (.var 17), (.var 18), (.var 19), (.var 20), (.var 21)] [⟨0, 4294967295⟩, ⟨0, 6⟩, ⟨0, 4294967295⟩, ⟨0, 4294967295⟩, ⟨0, 4294967295⟩, ⟨0, 4294967295⟩, ⟨0, 4294967295⟩, ⟨0, 4294967295⟩]
     (.ite (.lt (.var 23) (.var 13))
      (.need [(.b (.lt (.var 15) (.lit 6))), (.b (.lt (.var 23) (.lit 6))), (.b (.lt (.add (.var 15) (.var 23)) (.lit 6)))]
      (.bind (.ite (.eq (.var 15) (.lit 0)) (.var 0) (.ite (.eq (.var 15) (.lit 1)) (.var 1) (.ite (.eq (.var 15) (.lit 2)) (.var 2) (.ite (.eq (.var 15) (.lit 3)) (.var 3) (.ite (.eq (.var 15) (.lit 4)) (.var 4) (.var 5))))))
      (.bind (.ite (.eq (.var 23) (.lit 0)) (.var 6) (.ite (.eq (.var 23) (.lit 1)) (.var 7) (.ite (.eq (.var 23) (.lit 2)) (.var 8) (.ite (.eq (.var 23) (.lit 3)) (.var 9) (.ite (.eq (.var 23) (.lit 4)) (.var 10) (.var 11))))))
      (.bind (.ite (.eq (.add (.var 15) (.var 23)) (.lit 0)) (.var 24) (.ite (.eq (.add (.var 15) (.var 23)) (.lit 1)) (.var 25) (.ite (.eq (.add (.var 15) (.var 23)) (.lit 2)) (.var 26) (.ite (.eq (.add (.var 15) (.var 23)) (.lit 3)) (.var 27) (.ite (.eq (.add (.var 15) (.var 23)) (.lit 4)) (.var 28) (.var 29))))))
      (.bind (.add (.add (.mul (.ite (.eq (.var 15) (.lit 0)) (.var 0) (.ite (.eq (.var 15) (.lit 1)) (.var 1) (.ite (.eq (.var 15) (.lit 2)) (.var 2) (.ite (.eq (.var 15) (.lit 3)) (.var 3) (.ite (.eq (.var 15) (.lit 4)) (.var 4) (.var 5)))))) (.ite (.eq (.var 23) (.lit 0)) (.var 6) (.ite (.eq (.var 23) (.lit 1)) (.var 7) (.ite (.eq (.var 23) (.lit 2)) (.var 8) (.ite (.eq (.var 23) (.lit 3)) (.var 9) (.ite (.eq (.var 23) (.lit 4)) (.var 10) (.var 11))))))) (.ite (.eq (.add (.var 15) (.var 23)) (.lit 0)) (.var 24) (.ite (.eq (.add (.var 15) (.var 23)) (.lit 1)) (.var 25) (.ite (.eq (.add (.var 15) (.var 23)) (.lit 2)) (.var 26) (.ite (.eq (.add (.var 15) (.var 23)) (.lit 3)) (.var 27) (.ite (.eq (.add (.var 15) (.var 23)) (.lit 4)) (.var 28) (.var 29))))))) (.var 22))
      (.need [(.b (.lt (.add (.var 15) (.var 23)) (.lit 6)))]
      (.bind (.ite (.eq (.add (.var 15) (.var 23)) (.lit 0)) (.wrap .u32 (.var 33)) (.var 24))
      (.bind (.ite (.eq (.add (.var 15) (.var 23)) (.lit 1)) (.wrap .u32 (.var 33)) (.var 25))
      (.bind (.ite (.eq (.add (.var 15) (.var 23)) (.lit 2)) (.wrap .u32 (.var 33)) (.var 26))
      (.bind (.ite (.eq (.add (.var 15) (.var 23)) (.lit 3)) (.wrap .u32 (.var 33)) (.var 27))
      (.bind (.ite (.eq (.add (.var 15) (.var 23)) (.lit 4)) (.wrap .u32 (.var 33)) (.var 28))
      (.bind (.ite (.eq (.add (.var 15) (.var 23)) (.lit 5)) (.wrap .u32 (.var 33)) (.var 29))
      (.bind (.div (.var 33) (.lit 4294967296))
      (.again 1 22 [⟨0, 4294967295⟩, ⟨0, 6⟩, ⟨0, 4294967295⟩, ⟨0, 4294967295⟩, ⟨0, 4294967295⟩, ⟨0, 4294967295⟩, ⟨0, 4294967295⟩, ⟨0, 4294967295⟩] [(.var 40), (.add (.var 23) (.lit 1)), (.var 34), (.var 35), (.var 36), (.var 37), (.var 38), (.var 39)]))))))))))))))
      (.ite (.lt (.add (.var 15) (.var 13)) (.lit 6))
       (.need [(.b (.lt (.add (.var 15) (.var 13)) (.lit 6)))]
       (.bind (.ite (.eq (.add (.var 15) (.var 13)) (.lit 0)) (.var 22) (.var 24))
       (.bind (.ite (.eq (.add (.var 15) (.var 13)) (.lit 1)) (.var 22) (.var 25))
       (.bind (.ite (.eq (.add (.var 15) (.var 13)) (.lit 2)) (.var 22) (.var 26))
       (.bind (.ite (.eq (.add (.var 15) (.var 13)) (.lit 3)) (.var 22) (.var 27))
       (.bind (.ite (.eq (.add (.var 15) (.var 13)) (.lit 4)) (.var 22) (.var 28))
       (.bind (.ite (.eq (.add (.var 15) (.var 13)) (.lit 5)) (.var 22) (.var 29))
       (.again 0 14 [⟨0, 1⟩, ⟨0, 6⟩, ⟨0, 4294967295⟩, ⟨0, 4294967295⟩, ⟨0, 4294967295⟩, ⟨0, 4294967295⟩, ⟨0, 4294967295⟩, ⟨0, 4294967295⟩] [(.ite (.eq (.var 14) (.lit 1)) (.lit 1) (.lit 0)), (.add (.var 15) (.lit 1)), (.var 30), (.var 31), (.var 32), (.var 33), (.var 34), (.var 35)]))))))))
       (.bind (.ite (.or (.not (.eq (.var 22) (.lit 0))) (.and (.eq (.var 22) (.lit 0)) (.eq (.var 14) (.lit 1)))) (.lit 1) (.lit 0))
       (.again 0 14 [⟨0, 1⟩, ⟨0, 6⟩, ⟨0, 4294967295⟩, ⟨0, 4294967295⟩, ⟨0, 4294967295⟩, ⟨0, 4294967295⟩, ⟨0, 4294967295⟩, ⟨0, 4294967295⟩] [(.ite (.eq (.var 30) (.lit 1)) (.lit 1) (.lit 0)), (.add (.var 15) (.lit 1)), (.var 24), (.var 25), (.var 26), (.var 27), (.var 28), (.var 29)])))))
    (.fin (.e (.var 16) (.e (.var 17) (.e (.var 18) (.e (.var 19) (.e (.var 20) (.e (.var 21) (.e (.var 14) .nil)))))))))))))
theorem v45 : vcOfI ⟨c45, [(7, ⟨0, [9, 24], [3], [25, 26, 10, 11, 27, 28, 29, 30, 12, 31, 32, 33, 34, 35, 36, 37, 38, 39, 40, 41, 42, 43, 44, 45, 46, 47, 48, 13, 49, 50, 51, 52, 53, 54, 55, 56, 57, 58, 59, 60, 61, 62, 63, 64, 65, 66, 67, 68, 69, 70], [⟨0, 1⟩, ⟨0, 6⟩, ⟨0, 4294967295⟩, ⟨0, 4294967295⟩, ⟨0, 4294967295⟩, ⟨0, 4294967295⟩, ⟨0, 4294967295⟩, ⟨0, 4294967295⟩]⟩), (11, ⟨1, [11, 28], [3], [29, 30, 12, 31, 32, 33, 34, 35, 36, 37, 38, 39, 40, 41, 42, 43, 44, 45, 46, 47, 48, 13, 49, 50, 51, 52, 53, 54, 55, 56, 57, 67], [⟨0, 4294967295⟩, ⟨0, 6⟩, ⟨0, 4294967295⟩, ⟨0, 4294967295⟩, ⟨0, 4294967295⟩, ⟨0, 4294967295⟩, ⟨0, 4294967295⟩, ⟨0, 4294967295⟩]⟩)]⟩ iv45 250 Try.f45 s45 = t45 := by kernel_rfl
set_option linter.unusedVariables false in
def p45 (T : Tab) (I : Nat → List Int → List Int → Prop) (M : Nat → List Int → List Int → Nat) (pre : Nat → List Int → Prop) (post : List Int → Prop) (v0 v1 v2 v3 v4 v5 v6 v7 v8 v9 v10 v11 : Int) : Prop :=
 ∀ v12 : Int, [v12] = T.out 86 1 [v0, v1, v2, v3, v4, v5] →
 ∀ v13 : Int, [v13] = T.out 86 1 [v6, v7, v8, v9, v10, v11] →
 ((decide ((7 : Int) < (v12 + v13)) = true →
  post [0, 0, 0, 0, 0, 0, 1]) ∧ (decide ((7 : Int) < (v12 + v13)) = false →
  ((allHas [⟨0, 1⟩, ⟨0, 6⟩, ⟨0, 4294967295⟩, ⟨0, 4294967295⟩, ⟨0, 4294967295⟩, ⟨0, 4294967295⟩, ⟨0, 4294967295⟩, ⟨0, 4294967295⟩] [0, 0, 0, 0, 0, 0, 0, 0] ∧ I 0 [v0, v1, v2, v3, v4, v5, v6, v7, v8, v9, v10, v11, v12, v13] [0, 0, 0, 0, 0, 0, 0, 0]) ∧ ∀ v14 v15 v16 v17 v18 v19 v20 v21 : Int, allHas [⟨0, 1⟩, ⟨0, 6⟩, ⟨0, 4294967295⟩, ⟨0, 4294967295⟩, ⟨0, 4294967295⟩, ⟨0, 4294967295⟩, ⟨0, 4294967295⟩, ⟨0, 4294967295⟩] [v14, v15, v16, v17, v18, v19, v20, v21] → I 0 [v0, v1, v2, v3, v4, v5, v6, v7, v8, v9, v10, v11, v12, v13] [v14, v15, v16, v17, v18, v19, v20, v21] →
   ((decide ((v15 : Int) < v12) = true →
    ((allHas [⟨0, 4294967295⟩, ⟨0, 6⟩, ⟨0, 4294967295⟩, ⟨0, 4294967295⟩, ⟨0, 4294967295⟩, ⟨0, 4294967295⟩, ⟨0, 4294967295⟩, ⟨0, 4294967295⟩] [0, 0, v16, v17, v18, v19, v20, v21] ∧ I 1 [v0, v1, v2, v3, v4, v5, v6, v7, v8, v9, v10, v11, v12, v13, v14, v15, v16, v17, v18, v19, v20, v21] [0, 0, v16, v17, v18, v19, v20, v21]) ∧ ∀ v22 v23 v24 v25 v26 v27 v28 v29 : Int, allHas [⟨0, 4294967295⟩, ⟨0, 6⟩, ⟨0, 4294967295⟩, ⟨0, 4294967295⟩, ⟨0, 4294967295⟩, ⟨0, 4294967295⟩, ⟨0, 4294967295⟩, ⟨0, 4294967295⟩] [v22, v23, v24, v25, v26, v27, v28, v29] → I 1 [v0, v1, v2, v3, v4, v5, v6, v7, v8, v9, v10, v11, v12, v13, v14, v15, v16, v17, v18, v19, v20, v21] [v22, v23, v24, v25, v26, v27, v28, v29] →
     ((decide ((v23 : Int) < v13) = true →
      ((decide ((v15 : Int) < 6) = true ∧ decide ((v23 : Int) < 6) = true ∧ decide (((v15 + v23) : Int) < 6) = true) ∧ ((decide ((v15 : Int) < 6) = true ∧ decide ((v23 : Int) < 6) = true ∧ decide (((v15 + v23) : Int) < 6) = true) →
      ∀ v30 : Int, v30 = (if decide ((v15 : Int) = 0) = true then v0 else (if decide ((v15 : Int) = 1) = true then v1 else (if decide ((v15 : Int) = 2) = true then v2 else (if decide ((v15 : Int) = 3) = true then v3 else (if decide ((v15 : Int) = 4) = true then v4 else v5))))) →
      ∀ v31 : Int, v31 = (if decide ((v23 : Int) = 0) = true then v6 else (if decide ((v23 : Int) = 1) = true then v7 else (if decide ((v23 : Int) = 2) = true then v8 else (if decide ((v23 : Int) = 3) = true then v9 else (if decide ((v23 : Int) = 4) = true then v10 else v11))))) →
      ∀ v32 : Int, v32 = (if decide (((v15 + v23) : Int) = 0) = true then v24 else (if decide (((v15 + v23) : Int) = 1) = true then v25 else (if decide (((v15 + v23) : Int) = 2) = true then v26 else (if decide (((v15 + v23) : Int) = 3) = true then v27 else (if decide (((v15 + v23) : Int) = 4) = true then v28 else v29))))) →
      ∀ v33 : Int, v33 = ((((if decide ((v15 : Int) = 0) = true then v0 else (if decide ((v15 : Int) = 1) = true then v1 else (if decide ((v15 : Int) = 2) = true then v2 else (if decide ((v15 : Int) = 3) = true then v3 else (if decide ((v15 : Int) = 4) = true then v4 else v5))))) * (if decide ((v23 : Int) = 0) = true then v6 else (if decide ((v23 : Int) = 1) = true then v7 else (if decide ((v23 : Int) = 2) = true then v8 else (if decide ((v23 : Int) = 3) = true then v9 else (if decide ((v23 : Int) = 4) = true then v10 else v11)))))) + (if decide (((v15 + v23) : Int) = 0) = true then v24 else (if decide (((v15 + v23) : Int) = 1) = true then v25 else (if decide (((v15 + v23) : Int) = 2) = true then v26 else (if decide (((v15 + v23) : Int) = 3) = true then v27 else (if decide (((v15 + v23) : Int) = 4) = true then v28 else v29)))))) + v22) →
      ((decide (((v15 + v23) : Int) < 6) = true) ∧ ((decide (((v15 + v23) : Int) < 6) = true) →
      ∀ v34 : Int, v34 = (if decide (((v15 + v23) : Int) = 0) = true then (IntKind.wrap .u32 v33) else v24) →
      ∀ v35 : Int, v35 = (if decide (((v15 + v23) : Int) = 1) = true then (IntKind.wrap .u32 v33) else v25) →
      ∀ v36 : Int, v36 = (if decide (((v15 + v23) : Int) = 2) = true then (IntKind.wrap .u32 v33) else v26) →
      ∀ v37 : Int, v37 = (if decide (((v15 + v23) : Int) = 3) = true then (IntKind.wrap .u32 v33) else v27) →
      ∀ v38 : Int, v38 = (if decide (((v15 + v23) : Int) = 4) = true then (IntKind.wrap .u32 v33) else v28) →
      ∀ v39 : Int, v39 = (if decide (((v15 + v23) : Int) = 5) = true then (IntKind.wrap .u32 v33) else v29) →
      ∀ v40 : Int, v40 = (v33 / 4294967296) →
      (allHas [⟨0, 4294967295⟩, ⟨0, 6⟩, ⟨0, 4294967295⟩, ⟨0, 4294967295⟩, ⟨0, 4294967295⟩, ⟨0, 4294967295⟩, ⟨0, 4294967295⟩, ⟨0, 4294967295⟩] [v40, (v23 + 1), v34, v35, v36, v37, v38, v39] ∧ I 1 [v0, v1, v2, v3, v4, v5, v6, v7, v8, v9, v10, v11, v12, v13, v14, v15, v16, v17, v18, v19, v20, v21] [v40, (v23 + 1), v34, v35, v36, v37, v38, v39] ∧ M 1 [v0, v1, v2, v3, v4, v5, v6, v7, v8, v9, v10, v11, v12, v13, v14, v15, v16, v17, v18, v19, v20, v21] [v40, (v23 + 1), v34, v35, v36, v37, v38, v39] < M 1 [v0, v1, v2, v3, v4, v5, v6, v7, v8, v9, v10, v11, v12, v13, v14, v15, v16, v17, v18, v19, v20, v21] [v22, v23, v24, v25, v26, v27, v28, v29])))))) ∧ (decide ((v23 : Int) < v13) = false →
      ((decide (((v15 + v13) : Int) < 6) = true →
       ((decide (((v15 + v13) : Int) < 6) = true) ∧ ((decide (((v15 + v13) : Int) < 6) = true) →
       ∀ v30 : Int, v30 = (if decide (((v15 + v13) : Int) = 0) = true then v22 else v24) →
       ∀ v31 : Int, v31 = (if decide (((v15 + v13) : Int) = 1) = true then v22 else v25) →
       ∀ v32 : Int, v32 = (if decide (((v15 + v13) : Int) = 2) = true then v22 else v26) →
       ∀ v33 : Int, v33 = (if decide (((v15 + v13) : Int) = 3) = true then v22 else v27) →
       ∀ v34 : Int, v34 = (if decide (((v15 + v13) : Int) = 4) = true then v22 else v28) →
       ∀ v35 : Int, v35 = (if decide (((v15 + v13) : Int) = 5) = true then v22 else v29) →
       (allHas [⟨0, 1⟩, ⟨0, 6⟩, ⟨0, 4294967295⟩, ⟨0, 4294967295⟩, ⟨0, 4294967295⟩, ⟨0, 4294967295⟩, ⟨0, 4294967295⟩, ⟨0, 4294967295⟩] [(if decide ((v14 : Int) = 1) = true then 1 else 0), (v15 + 1), v30, v31, v32, v33, v34, v35] ∧ I 0 [v0, v1, v2, v3, v4, v5, v6, v7, v8, v9, v10, v11, v12, v13] [(if decide ((v14 : Int) = 1) = true then 1 else 0), (v15 + 1), v30, v31, v32, v33, v34, v35] ∧ M 0 [v0, v1, v2, v3, v4, v5, v6, v7, v8, v9, v10, v11, v12, v13] [(if decide ((v14 : Int) = 1) = true then 1 else 0), (v15 + 1), v30, v31, v32, v33, v34, v35] < M 0 [v0, v1, v2, v3, v4, v5, v6, v7, v8, v9, v10, v11, v12, v13] [v14, v15, v16, v17, v18, v19, v20, v21])))) ∧ (decide (((v15 + v13) : Int) < 6) = false →
       ∀ v30 : Int, v30 = (if ((!decide ((v22 : Int) = 0)) || (decide ((v22 : Int) = 0) && decide ((v14 : Int) = 1))) = true then 1 else 0) →
       (allHas [⟨0, 1⟩, ⟨0, 6⟩, ⟨0, 4294967295⟩, ⟨0, 4294967295⟩, ⟨0, 4294967295⟩, ⟨0, 4294967295⟩, ⟨0, 4294967295⟩, ⟨0, 4294967295⟩] [(if decide ((v30 : Int) = 1) = true then 1 else 0), (v15 + 1), v24, v25, v26, v27, v28, v29] ∧ I 0 [v0, v1, v2, v3, v4, v5, v6, v7, v8, v9, v10, v11, v12, v13] [(if decide ((v30 : Int) = 1) = true then 1 else 0), (v15 + 1), v24, v25, v26, v27, v28, v29] ∧ M 0 [v0, v1, v2, v3, v4, v5, v6, v7, v8, v9, v10, v11, v12, v13] [(if decide ((v30 : Int) = 1) = true then 1 else 0), (v15 + 1), v24, v25, v26, v27, v28, v29] < M 0 [v0, v1, v2, v3, v4, v5, v6, v7, v8, v9, v10, v11, v12, v13] [v14, v15, v16, v17, v18, v19, v20, v21]))))))) ∧ (decide ((v15 : Int) < v12) = false →
    post [v16, v17, v18, v19, v20, v21, v14])))))
theorem q45 (T : Tab) (I : Nat → List Int → List Int → Prop) (M : Nat → List Int → List Int → Nat) (pre : Nat → List Int → Prop) (post : List Int → Prop) (v0 v1 v2 v3 v4 v5 v6 v7 v8 v9 v10 v11 : Int) : t45.plain T (presL pre I M) post ⟨[v0, v1, v2, v3, v4, v5, v6, v7, v8, v9, v10, v11], []⟩ = p45 T I M pre post v0 v1 v2 v3 v4 v5 v6 v7 v8 v9 v10 v11 := by kernel_rfl
theorem k45 (T : Tab) (I : Nat → List Int → List Int → Prop) (M : Nat → List Int → List Int → Nat) (pre : Nat → List Int → Prop) (hs : SubSig T c45.sigs) (ht : Tot pre c45.sigs) (hg : T.sig 45 = some s45) (hC : CtAll Try.prog T.fns (pres pre) c45.sigs)
    (h : ∀ (v0 v1 v2 v3 v4 v5 v6 v7 v8 v9 v10 v11 : Int), (0 ≤ v0 ∧ v0 ≤ 4294967295) → (0 ≤ v1 ∧ v1 ≤ 4294967295) → (0 ≤ v2 ∧ v2 ≤ 4294967295) → (0 ≤ v3 ∧ v3 ≤ 4294967295) → (0 ≤ v4 ∧ v4 ≤ 4294967295) → (0 ≤ v5 ∧ v5 ≤ 4294967295) → (0 ≤ v6 ∧ v6 ≤ 4294967295) → (0 ≤ v7 ∧ v7 ≤ 4294967295) → (0 ≤ v8 ∧ v8 ≤ 4294967295) → (0 ≤ v9 ∧ v9 ≤ 4294967295) → (0 ≤ v10 ∧ v10 ≤ 4294967295) → (0 ≤ v11 ∧ v11 ≤ 4294967295) → pre 45 [v0, v1, v2, v3, v4, v5, v6, v7, v8, v9, v10, v11] → p45 T I M pre (fun ys => ys = T.fn 45 [v0, v1, v2, v3, v4, v5, v6, v7, v8, v9, v10, v11]) v0 v1 v2 v3 v4 v5 v6 v7 v8 v9 v10 v11) : CT Try.prog T.fns (pres pre) 45 s45 :=
  T.ctq (F := ⟨c45, [(7, ⟨0, [9, 24], [3], [25, 26, 10, 11, 27, 28, 29, 30, 12, 31, 32, 33, 34, 35, 36, 37, 38, 39, 40, 41, 42, 43, 44, 45, 46, 47, 48, 13, 49, 50, 51, 52, 53, 54, 55, 56, 57, 58, 59, 60, 61, 62, 63, 64, 65, 66, 67, 68, 69, 70], [⟨0, 1⟩, ⟨0, 6⟩, ⟨0, 4294967295⟩, ⟨0, 4294967295⟩, ⟨0, 4294967295⟩, ⟨0, 4294967295⟩, ⟨0, 4294967295⟩, ⟨0, 4294967295⟩]⟩), (11, ⟨1, [11, 28], [3], [29, 30, 12, 31, 32, 33, 34, 35, 36, 37, 38, 39, 40, 41, 42, 43, 44, 45, 46, 47, 48, 13, 49, 50, 51, 52, 53, 54, 55, 56, 57, 67], [⟨0, 4294967295⟩, ⟨0, 6⟩, ⟨0, 4294967295⟩, ⟨0, 4294967295⟩, ⟨0, 4294967295⟩, ⟨0, 4294967295⟩, ⟨0, 4294967295⟩, ⟨0, 4294967295⟩]⟩)]⟩) (fuel := 250) v45 Try.checked.mixed hs ht hg hC Try.func45 I M (fun _ h _ => h) fun xs hx hp => by
    match xs, hx, hp with
    | [v0, v1, v2, v3, v4, v5, v6, v7, v8, v9, v10, v11], hx, hp => rw [q45]; exact h v0 v1 v2 v3 v4 v5 v6 v7 v8 v9 v10 v11 hx.1 hx.2.1 hx.2.2.1 hx.2.2.2.1 hx.2.2.2.2.1 hx.2.2.2.2.2.1 hx.2.2.2.2.2.2.1 hx.2.2.2.2.2.2.2.1 hx.2.2.2.2.2.2.2.2.1 hx.2.2.2.2.2.2.2.2.2.1 hx.2.2.2.2.2.2.2.2.2.2.1 hx.2.2.2.2.2.2.2.2.2.2.2.1 hp

/-- loop.example/g01242/impl.MulWides -/
noncomputable def c17 : Cfg := ⟨Try.prog, [(44, s44), (45, s45), (46, s46)]⟩
def iv17 : List Iv := [⟨0, 1⟩, ⟨0, 4294967295⟩, ⟨0, 4294967295⟩, ⟨0, 4294967295⟩, ⟨0, 4294967295⟩, ⟨0, 4294967295⟩, ⟨0, 4294967295⟩, ⟨0, 1⟩, ⟨0, 4294967295⟩, ⟨0, 4294967295⟩, ⟨0, 4294967295⟩, ⟨0, 4294967295⟩, ⟨0, 4294967295⟩, ⟨0, 4294967295⟩]
def t17 : VC :=
 (.call 44 (.e (.var 0) (.e (.var 1) (.e (.var 2) (.e (.var 3) (.e (.var 4) (.e (.var 5) (.e (.var 6) .nil))))))) 1
 (.ite (.eq (.var 14) (.lit 1))
  (.call 44 (.e (.var 7) (.e (.var 8) (.e (.var 9) (.e (.var 10) (.e (.var 11) (.e (.var 12) (.e (.var 13) .nil))))))) 1
  (.ite (.not (.eq (.var 15) (.lit 1)))
   (.fin (.e (.lit 0) (.e (.lit 0) (.e (.lit 0) (.e (.lit 0) (.e (.lit 0) (.e (.lit 0) (.e (.lit 0) (.e (.lit 1) .nil)))))))))
   (.call 45 (.e (.var 1) (.e (.var 2) (.e (.var 3) (.e (.var 4) (.e (.var 5) (.e (.var 6) (.e (.var 8) (.e (.var 9) (.e (.var 10) (.e (.var 11) (.e (.var 12) (.e (.var 13) .nil)))))))))))) 7
   (.call 46 (.e (.ite (.not (.beq (.eq (.var 0) (.lit 1)) (.eq (.var 7) (.lit 1)))) (.lit 1) (.lit 0)) (.e (.var 16) (.e (.var 17) (.e (.var 18) (.e (.var 19) (.e (.var 20) (.e (.var 21) (.e (.var 22) .nil)))))))) 8
   (.fin (.e (.var 23) (.e (.var 24) (.e (.var 25) (.e (.var 26) (.e (.var 27) (.e (.var 28) (.e (.var 29) (.e (.var 30) .nil)))))))))))))
  (.fin (.e (.lit 0) (.e (.lit 0) (.e (.lit 0) (.e (.lit 0) (.e (.lit 0) (.e (.lit 0) (.e (.lit 0) (.e (.lit 1) .nil)))))))))))
theorem v17 : vcOfI ⟨c17, []⟩ iv17 250 Try.f17 s17 = t17 := by kernel_rfl
set_option linter.unusedVariables false in
def p17 (T : Tab) (I : Nat → List Int → List Int → Prop) (M : Nat → List Int → List Int → Nat) (pre : Nat → List Int → Prop) (post : List Int → Prop) (v0 v1 v2 v3 v4 v5 v6 v7 v8 v9 v10 v11 v12 v13 : Int) : Prop :=
 ∀ v14 : Int, [v14] = T.out 44 1 [v0, v1, v2, v3, v4, v5, v6] →
 ((decide ((v14 : Int) = 1) = true →
  ∀ v15 : Int, [v15] = T.out 44 1 [v7, v8, v9, v10, v11, v12, v13] →
  (((!decide ((v15 : Int) = 1)) = true →
   post [0, 0, 0, 0, 0, 0, 0, 1]) ∧ ((!decide ((v15 : Int) = 1)) = false →
   ∀ v16 v17 v18 v19 v20 v21 v22 : Int, [v16, v17, v18, v19, v20, v21, v22] = T.out 45 7 [v1, v2, v3, v4, v5, v6, v8, v9, v10, v11, v12, v13] →
   ∀ v23 v24 v25 v26 v27 v28 v29 v30 : Int, [v23, v24, v25, v26, v27, v28, v29, v30] = T.out 46 8 [(if (!(decide ((v0 : Int) = 1) == decide ((v7 : Int) = 1))) = true then 1 else 0), v16, v17, v18, v19, v20, v21, v22] →
   post [v23, v24, v25, v26, v27, v28, v29, v30]))) ∧ (decide ((v14 : Int) = 1) = false →
  post [0, 0, 0, 0, 0, 0, 0, 1]))
theorem q17 (T : Tab) (I : Nat → List Int → List Int → Prop) (M : Nat → List Int → List Int → Nat) (pre : Nat → List Int → Prop) (post : List Int → Prop) (v0 v1 v2 v3 v4 v5 v6 v7 v8 v9 v10 v11 v12 v13 : Int) : t17.plain T (presL pre I M) post ⟨[v0, v1, v2, v3, v4, v5, v6, v7, v8, v9, v10, v11, v12, v13], []⟩ = p17 T I M pre post v0 v1 v2 v3 v4 v5 v6 v7 v8 v9 v10 v11 v12 v13 := by kernel_rfl
theorem k17 (T : Tab) (I : Nat → List Int → List Int → Prop) (M : Nat → List Int → List Int → Nat) (pre : Nat → List Int → Prop) (hs : SubSig T c17.sigs) (ht : Tot pre c17.sigs) (hg : T.sig 17 = some s17) (hC : CtAll Try.prog T.fns (pres pre) c17.sigs)
    (h : ∀ (v0 v1 v2 v3 v4 v5 v6 v7 v8 v9 v10 v11 v12 v13 : Int), (0 ≤ v0 ∧ v0 ≤ 1) → (0 ≤ v1 ∧ v1 ≤ 4294967295) → (0 ≤ v2 ∧ v2 ≤ 4294967295) → (0 ≤ v3 ∧ v3 ≤ 4294967295) → (0 ≤ v4 ∧ v4 ≤ 4294967295) → (0 ≤ v5 ∧ v5 ≤ 4294967295) → (0 ≤ v6 ∧ v6 ≤ 4294967295) → (0 ≤ v7 ∧ v7 ≤ 1) → (0 ≤ v8 ∧ v8 ≤ 4294967295) → (0 ≤ v9 ∧ v9 ≤ 4294967295) → (0 ≤ v10 ∧ v10 ≤ 4294967295) → (0 ≤ v11 ∧ v11 ≤ 4294967295) → (0 ≤ v12 ∧ v12 ≤ 4294967295) → (0 ≤ v13 ∧ v13 ≤ 4294967295) → pre 17 [v0, v1, v2, v3, v4, v5, v6, v7, v8, v9, v10, v11, v12, v13] → p17 T I M pre (fun ys => ys = T.fn 17 [v0, v1, v2, v3, v4, v5, v6, v7, v8, v9, v10, v11, v12, v13]) v0 v1 v2 v3 v4 v5 v6 v7 v8 v9 v10 v11 v12 v13) : CT Try.prog T.fns (pres pre) 17 s17 :=
  T.ctq (F := ⟨c17, []⟩) (fuel := 250) v17 Try.checked.mixed hs ht hg hC Try.func17 I M (fun _ h _ => h) fun xs hx hp => by
    match xs, hx, hp with
    | [v0, v1, v2, v3, v4, v5, v6, v7, v8, v9, v10, v11, v12, v13], hx, hp => rw [q17]; exact h v0 v1 v2 v3 v4 v5 v6 v7 v8 v9 v10 v11 v12 v13 hx.1 hx.2.1 hx.2.2.1 hx.2.2.2.1 hx.2.2.2.2.1 hx.2.2.2.2.2.1 hx.2.2.2.2.2.2.1 hx.2.2.2.2.2.2.2.1 hx.2.2.2.2.2.2.2.2.1 hx.2.2.2.2.2.2.2.2.2.1 hx.2.2.2.2.2.2.2.2.2.2.1 hx.2.2.2.2.2.2.2.2.2.2.2.1 hx.2.2.2.2.2.2.2.2.2.2.2.2.1 hx.2.2.2.2.2.2.2.2.2.2.2.2.2.1 hp

/-- loop.example/g01242/impl.ShiftUp -/
noncomputable def c20 : Cfg := ⟨Try.prog, [(44, s44), (50, s50), (51, s51), (52, s52), (46, s46)]⟩
def iv20 : List Iv := [⟨0, 1⟩, ⟨0, 4294967295⟩, ⟨0, 4294967295⟩, ⟨0, 4294967295⟩, ⟨0, 4294967295⟩, ⟨0, 4294967295⟩, ⟨0, 4294967295⟩, ⟨(-9223372036854775808), 9223372036854775807⟩]
def t20 : VC :=
 (.call 44 (.e (.var 0) (.e (.var 1) (.e (.var 2) (.e (.var 3) (.e (.var 4) (.e (.var 5) (.e (.var 6) .nil))))))) 1
 (.ite (.not (.eq (.var 8) (.lit 1)))
  (.fin (.e (.lit 0) (.e (.lit 0) (.e (.lit 0) (.e (.lit 0) (.e (.lit 0) (.e (.lit 0) (.e (.lit 0) (.e (.lit 1) .nil)))))))))
  (.ite (.le (.lit 0) (.var 7))
   (.ite (.lt (.lit 191) (.var 7))
    (.fin (.e (.lit 0) (.e (.lit 0) (.e (.lit 0) (.e (.lit 0) (.e (.lit 0) (.e (.lit 0) (.e (.lit 0) (.e (.lit 2) .nil)))))))))
    (.call 50 (.e (.var 1) (.e (.var 2) (.e (.var 3) (.e (.var 4) (.e (.var 5) (.e (.var 6) .nil)))))) 1
    (.ite (.not (.eq (.var 9) (.lit 1)))
     (.call 51 (.e (.var 1) (.e (.var 2) (.e (.var 3) (.e (.var 4) (.e (.var 5) (.e (.var 6) .nil)))))) 1
     (.bind (.ite (.lt (.lit 192) (.add (.var 10) (.var 7))) (.lit 1) (.lit 0))
     (.need [(.pre 52 (.e (.var 1) (.e (.var 2) (.e (.var 3) (.e (.var 4) (.e (.var 5) (.e (.var 6) (.e (.var 7) .nil))))))))]
     (.call 52 (.e (.var 1) (.e (.var 2) (.e (.var 3) (.e (.var 4) (.e (.var 5) (.e (.var 6) (.e (.var 7) .nil))))))) 6
     (.call 46 (.e (.var 0) (.e (.var 12) (.e (.var 13) (.e (.var 14) (.e (.var 15) (.e (.var 16) (.e (.var 17) (.e (.var 11) .nil)))))))) 8
     (.fin (.e (.var 18) (.e (.var 19) (.e (.var 20) (.e (.var 21) (.e (.var 22) (.e (.var 23) (.e (.var 24) (.e (.var 25) .nil))))))))))))))
     (.need [(.pre 52 (.e (.var 1) (.e (.var 2) (.e (.var 3) (.e (.var 4) (.e (.var 5) (.e (.var 6) (.e (.var 7) .nil))))))))]
     (.call 52 (.e (.var 1) (.e (.var 2) (.e (.var 3) (.e (.var 4) (.e (.var 5) (.e (.var 6) (.e (.var 7) .nil))))))) 6
     (.call 46 (.e (.var 0) (.e (.var 10) (.e (.var 11) (.e (.var 12) (.e (.var 13) (.e (.var 14) (.e (.var 15) (.e (.lit 0) .nil)))))))) 8
     (.fin (.e (.var 16) (.e (.var 17) (.e (.var 18) (.e (.var 19) (.e (.var 20) (.e (.var 21) (.e (.var 22) (.e (.var 23) .nil)))))))))))))))
   (.fin (.e (.lit 0) (.e (.lit 0) (.e (.lit 0) (.e (.lit 0) (.e (.lit 0) (.e (.lit 0) (.e (.lit 0) (.e (.lit 2) .nil))))))))))))
theorem v20 : vcOfI ⟨c20, []⟩ iv20 250 Try.f20 s20 = t20 := by kernel_rfl
set_option linter.unusedVariables false in
def p20 (T : Tab) (I : Nat → List Int → List Int → Prop) (M : Nat → List Int → List Int → Nat) (pre : Nat → List Int → Prop) (post : List Int → Prop) (v0 v1 v2 v3 v4 v5 v6 v7 : Int) : Prop :=
 ∀ v8 : Int, [v8] = T.out 44 1 [v0, v1, v2, v3, v4, v5, v6] →
 (((!decide ((v8 : Int) = 1)) = true →
  post [0, 0, 0, 0, 0, 0, 0, 1]) ∧ ((!decide ((v8 : Int) = 1)) = false →
  ((decide ((0 : Int) ≤ v7) = true →
   ((decide ((191 : Int) < v7) = true →
    post [0, 0, 0, 0, 0, 0, 0, 2]) ∧ (decide ((191 : Int) < v7) = false →
    ∀ v9 : Int, [v9] = T.out 50 1 [v1, v2, v3, v4, v5, v6] →
    (((!decide ((v9 : Int) = 1)) = true →
     ∀ v10 : Int, [v10] = T.out 51 1 [v1, v2, v3, v4, v5, v6] →
     ∀ v11 : Int, v11 = (if decide ((192 : Int) < (v10 + v7)) = true then 1 else 0) →
     ((pre 52 [v1, v2, v3, v4, v5, v6, v7]) ∧ ((pre 52 [v1, v2, v3, v4, v5, v6, v7]) →
     ∀ v12 v13 v14 v15 v16 v17 : Int, [v12, v13, v14, v15, v16, v17] = T.out 52 6 [v1, v2, v3, v4, v5, v6, v7] →
     ∀ v18 v19 v20 v21 v22 v23 v24 v25 : Int, [v18, v19, v20, v21, v22, v23, v24, v25] = T.out 46 8 [v0, v12, v13, v14, v15, v16, v17, v11] →
     post [v18, v19, v20, v21, v22, v23, v24, v25]))) ∧ ((!decide ((v9 : Int) = 1)) = false →
     ((pre 52 [v1, v2, v3, v4, v5, v6, v7]) ∧ ((pre 52 [v1, v2, v3, v4, v5, v6, v7]) →
     ∀ v10 v11 v12 v13 v14 v15 : Int, [v10, v11, v12, v13, v14, v15] = T.out 52 6 [v1, v2, v3, v4, v5, v6, v7] →
     ∀ v16 v17 v18 v19 v20 v21 v22 v23 : Int, [v16, v17, v18, v19, v20, v21, v22, v23] = T.out 46 8 [v0, v10, v11, v12, v13, v14, v15, 0] →
     post [v16, v17, v18, v19, v20, v21, v22, v23]))))))) ∧ (decide ((0 : Int) ≤ v7) = false →
   post [0, 0, 0, 0, 0, 0, 0, 2]))))
theorem q20 (T : Tab) (I : Nat → List Int → List Int → Prop) (M : Nat → List Int → List Int → Nat) (pre : Nat → List Int → Prop) (post : List Int → Prop) (v0 v1 v2 v3 v4 v5 v6 v7 : Int) : t20.plain T (presL pre I M) post ⟨[v0, v1, v2, v3, v4, v5, v6, v7], []⟩ = p20 T I M pre post v0 v1 v2 v3 v4 v5 v6 v7 := by kernel_rfl
theorem k20 (T : Tab) (I : Nat → List Int → List Int → Prop) (M : Nat → List Int → List Int → Nat) (pre : Nat → List Int → Prop) (hs : SubSig T c20.sigs) (ht : Tot pre c20.sigs) (hg : T.sig 20 = some s20) (hC : CtAll Try.prog T.fns (pres pre) c20.sigs)
    (h : ∀ (v0 v1 v2 v3 v4 v5 v6 v7 : Int), (0 ≤ v0 ∧ v0 ≤ 1) → (0 ≤ v1 ∧ v1 ≤ 4294967295) → (0 ≤ v2 ∧ v2 ≤ 4294967295) → (0 ≤ v3 ∧ v3 ≤ 4294967295) → (0 ≤ v4 ∧ v4 ≤ 4294967295) → (0 ≤ v5 ∧ v5 ≤ 4294967295) → (0 ≤ v6 ∧ v6 ≤ 4294967295) → ((-9223372036854775808) ≤ v7 ∧ v7 ≤ 9223372036854775807) → pre 20 [v0, v1, v2, v3, v4, v5, v6, v7] → p20 T I M pre (fun ys => ys = T.fn 20 [v0, v1, v2, v3, v4, v5, v6, v7]) v0 v1 v2 v3 v4 v5 v6 v7) : CT Try.prog T.fns (pres pre) 20 s20 :=
  T.ctq (F := ⟨c20, []⟩) (fuel := 250) v20 Try.checked.mixed hs ht hg hC Try.func20 I M (fun _ h _ => h) fun xs hx hp => by
    match xs, hx, hp with
    | [v0, v1, v2, v3, v4, v5, v6, v7], hx, hp => rw [q20]; exact h v0 v1 v2 v3 v4 v5 v6 v7 hx.1 hx.2.1 hx.2.2.1 hx.2.2.2.1 hx.2.2.2.2.1 hx.2.2.2.2.2.1 hx.2.2.2.2.2.2.1 hx.2.2.2.2.2.2.2.1 hp

/-- loop.example/g01242/impl.ShiftNear -/
noncomputable def c22 : Cfg := ⟨Try.prog, [(44, s44), (54, s54), (52, s52), (55, s55), (56, s56), (57, s57), (58, s58)]⟩
def iv22 : List Iv := [⟨0, 1⟩, ⟨0, 4294967295⟩, ⟨0, 4294967295⟩, ⟨0, 4294967295⟩, ⟨0, 4294967295⟩, ⟨0, 4294967295⟩, ⟨0, 4294967295⟩, ⟨(-9223372036854775808), 9223372036854775807⟩]
def t22 : VC :=
 (.call 44 (.e (.var 0) (.e (.var 1) (.e (.var 2) (.e (.var 3) (.e (.var 4) (.e (.var 5) (.e (.var 6) .nil))))))) 1
 (.ite (.not (.eq (.var 8) (.lit 1)))
  (.fin (.e (.lit 0) (.e (.lit 0) (.e (.lit 0) (.e (.lit 0) (.e (.lit 0) (.e (.lit 0) (.e (.lit 0) (.e (.lit 1) .nil)))))))))
  (.ite (.le (.lit 0) (.var 7))
   (.ite (.lt (.lit 191) (.var 7))
    (.fin (.e (.lit 0) (.e (.lit 0) (.e (.lit 0) (.e (.lit 0) (.e (.lit 0) (.e (.lit 0) (.e (.lit 0) (.e (.lit 2) .nil)))))))))
    (.ite (.eq (.var 7) (.lit 0))
     (.fin (.e (.var 0) (.e (.var 1) (.e (.var 2) (.e (.var 3) (.e (.var 4) (.e (.var 5) (.e (.var 6) (.e (.lit 0) .nil)))))))))
     (.need [(.pre 54 (.e (.var 1) (.e (.var 2) (.e (.var 3) (.e (.var 4) (.e (.var 5) (.e (.var 6) (.e (.var 7) .nil))))))))]
     (.call 54 (.e (.var 1) (.e (.var 2) (.e (.var 3) (.e (.var 4) (.e (.var 5) (.e (.var 6) (.e (.var 7) .nil))))))) 6
     (.need [(.pre 52 (.e (.var 9) (.e (.var 10) (.e (.var 11) (.e (.var 12) (.e (.var 13) (.e (.var 14) (.e (.var 7) .nil))))))))]
     (.call 52 (.e (.var 9) (.e (.var 10) (.e (.var 11) (.e (.var 12) (.e (.var 13) (.e (.var 14) (.e (.var 7) .nil))))))) 6
     (.call 55 (.e (.var 1) (.e (.var 2) (.e (.var 3) (.e (.var 4) (.e (.var 5) (.e (.var 6) (.e (.var 15) (.e (.var 16) (.e (.var 17) (.e (.var 18) (.e (.var 19) (.e (.var 20) .nil)))))))))))) 6
     (.need [(.pre 52 (.e (.lit 1) (.e (.lit 0) (.e (.lit 0) (.e (.lit 0) (.e (.lit 0) (.e (.lit 0) (.e (.sub (.var 7) (.lit 1)) .nil))))))))]
     (.call 52 (.e (.lit 1) (.e (.lit 0) (.e (.lit 0) (.e (.lit 0) (.e (.lit 0) (.e (.lit 0) (.e (.sub (.var 7) (.lit 1)) .nil))))))) 6
     (.call 56 (.e (.var 21) (.e (.var 22) (.e (.var 23) (.e (.var 24) (.e (.var 25) (.e (.var 26) (.e (.var 27) (.e (.var 28) (.e (.var 29) (.e (.var 30) (.e (.var 31) (.e (.var 32) .nil)))))))))))) 1
     (.ite (.le (.var 33) (.lit 0))
      (.ite (.eq (.var 33) (.lit 0))
       (.ite (.not (.eq (.var 0) (.lit 1)))
        (.call 57 (.e (.var 9) (.e (.var 10) (.e (.var 11) (.e (.var 12) (.e (.var 13) (.e (.var 14) .nil)))))) 6
        (.call 58 (.e (.var 0) (.e (.var 34) (.e (.var 35) (.e (.var 36) (.e (.var 37) (.e (.var 38) (.e (.var 39) .nil))))))) 7
        (.fin (.e (.var 40) (.e (.var 41) (.e (.var 42) (.e (.var 43) (.e (.var 44) (.e (.var 45) (.e (.var 46) (.e (.lit 0) .nil)))))))))))
        (.call 58 (.e (.var 0) (.e (.var 9) (.e (.var 10) (.e (.var 11) (.e (.var 12) (.e (.var 13) (.e (.var 14) .nil))))))) 7
        (.fin (.e (.var 34) (.e (.var 35) (.e (.var 36) (.e (.var 37) (.e (.var 38) (.e (.var 39) (.e (.var 40) (.e (.lit 0) .nil)))))))))))
       (.call 58 (.e (.var 0) (.e (.var 9) (.e (.var 10) (.e (.var 11) (.e (.var 12) (.e (.var 13) (.e (.var 14) .nil))))))) 7
       (.fin (.e (.var 34) (.e (.var 35) (.e (.var 36) (.e (.var 37) (.e (.var 38) (.e (.var 39) (.e (.var 40) (.e (.lit 0) .nil)))))))))))
      (.call 57 (.e (.var 9) (.e (.var 10) (.e (.var 11) (.e (.var 12) (.e (.var 13) (.e (.var 14) .nil)))))) 6
      (.call 58 (.e (.var 0) (.e (.var 34) (.e (.var 35) (.e (.var 36) (.e (.var 37) (.e (.var 38) (.e (.var 39) .nil))))))) 7
      (.fin (.e (.var 40) (.e (.var 41) (.e (.var 42) (.e (.var 43) (.e (.var 44) (.e (.var 45) (.e (.var 46) (.e (.lit 0) .nil))))))))))))))))))))))
   (.fin (.e (.lit 0) (.e (.lit 0) (.e (.lit 0) (.e (.lit 0) (.e (.lit 0) (.e (.lit 0) (.e (.lit 0) (.e (.lit 2) .nil))))))))))))
theorem v22 : vcOfI ⟨c22, []⟩ iv22 250 Try.f22 s22 = t22 := by kernel_rfl
set_option linter.unusedVariables false in
def p22 (T : Tab) (I : Nat → List Int → List Int → Prop) (M : Nat → List Int → List Int → Nat) (pre : Nat → List Int → Prop) (post : List Int → Prop) (v0 v1 v2 v3 v4 v5 v6 v7 : Int) : Prop :=
 ∀ v8 : Int, [v8] = T.out 44 1 [v0, v1, v2, v3, v4, v5, v6] →
 (((!decide ((v8 : Int) = 1)) = true →
  post [0, 0, 0, 0, 0, 0, 0, 1]) ∧ ((!decide ((v8 : Int) = 1)) = false →
  ((decide ((0 : Int) ≤ v7) = true →
   ((decide ((191 : Int) < v7) = true →
    post [0, 0, 0, 0, 0, 0, 0, 2]) ∧ (decide ((191 : Int) < v7) = false →
    ((decide ((v7 : Int) = 0) = true →
     post [v0, v1, v2, v3, v4, v5, v6, 0]) ∧ (decide ((v7 : Int) = 0) = false →
     ((pre 54 [v1, v2, v3, v4, v5, v6, v7]) ∧ ((pre 54 [v1, v2, v3, v4, v5, v6, v7]) →
     ∀ v9 v10 v11 v12 v13 v14 : Int, [v9, v10, v11, v12, v13, v14] = T.out 54 6 [v1, v2, v3, v4, v5, v6, v7] →
     ((pre 52 [v9, v10, v11, v12, v13, v14, v7]) ∧ ((pre 52 [v9, v10, v11, v12, v13, v14, v7]) →
     ∀ v15 v16 v17 v18 v19 v20 : Int, [v15, v16, v17, v18, v19, v20] = T.out 52 6 [v9, v10, v11, v12, v13, v14, v7] →
     ∀ v21 v22 v23 v24 v25 v26 : Int, [v21, v22, v23, v24, v25, v26] = T.out 55 6 [v1, v2, v3, v4, v5, v6, v15, v16, v17, v18, v19, v20] →
     ((pre 52 [1, 0, 0, 0, 0, 0, (v7 - 1)]) ∧ ((pre 52 [1, 0, 0, 0, 0, 0, (v7 - 1)]) →
     ∀ v27 v28 v29 v30 v31 v32 : Int, [v27, v28, v29, v30, v31, v32] = T.out 52 6 [1, 0, 0, 0, 0, 0, (v7 - 1)] →
     ∀ v33 : Int, [v33] = T.out 56 1 [v21, v22, v23, v24, v25, v26, v27, v28, v29, v30, v31, v32] →
     ((decide ((v33 : Int) ≤ 0) = true →
      ((decide ((v33 : Int) = 0) = true →
       (((!decide ((v0 : Int) = 1)) = true →
        ∀ v34 v35 v36 v37 v38 v39 : Int, [v34, v35, v36, v37, v38, v39] = T.out 57 6 [v9, v10, v11, v12, v13, v14] →
        ∀ v40 v41 v42 v43 v44 v45 v46 : Int, [v40, v41, v42, v43, v44, v45, v46] = T.out 58 7 [v0, v34, v35, v36, v37, v38, v39] →
        post [v40, v41, v42, v43, v44, v45, v46, 0]) ∧ ((!decide ((v0 : Int) = 1)) = false →
        ∀ v34 v35 v36 v37 v38 v39 v40 : Int, [v34, v35, v36, v37, v38, v39, v40] = T.out 58 7 [v0, v9, v10, v11, v12, v13, v14] →
        post [v34, v35, v36, v37, v38, v39, v40, 0]))) ∧ (decide ((v33 : Int) = 0) = false →
       ∀ v34 v35 v36 v37 v38 v39 v40 : Int, [v34, v35, v36, v37, v38, v39, v40] = T.out 58 7 [v0, v9, v10, v11, v12, v13, v14] →
       post [v34, v35, v36, v37, v38, v39, v40, 0]))) ∧ (decide ((v33 : Int) ≤ 0) = false →
      ∀ v34 v35 v36 v37 v38 v39 : Int, [v34, v35, v36, v37, v38, v39] = T.out 57 6 [v9, v10, v11, v12, v13, v14] →
      ∀ v40 v41 v42 v43 v44 v45 v46 : Int, [v40, v41, v42, v43, v44, v45, v46] = T.out 58 7 [v0, v34, v35, v36, v37, v38, v39] →
      post [v40, v41, v42, v43, v44, v45, v46, 0]))))))))))))) ∧ (decide ((0 : Int) ≤ v7) = false →
   post [0, 0, 0, 0, 0, 0, 0, 2]))))
theorem q22 (T : Tab) (I : Nat → List Int → List Int → Prop) (M : Nat → List Int → List Int → Nat) (pre : Nat → List Int → Prop) (post : List Int → Prop) (v0 v1 v2 v3 v4 v5 v6 v7 : Int) : t22.plain T (presL pre I M) post ⟨[v0, v1, v2, v3, v4, v5, v6, v7], []⟩ = p22 T I M pre post v0 v1 v2 v3 v4 v5 v6 v7 := by kernel_rfl
theorem k22 (T : Tab) (I : Nat → List Int → List Int → Prop) (M : Nat → List Int → List Int → Nat) (pre : Nat → List Int → Prop) (hs : SubSig T c22.sigs) (ht : Tot pre c22.sigs) (hg : T.sig 22 = some s22) (hC : CtAll Try.prog T.fns (pres pre) c22.sigs)
    (h : ∀ (v0 v1 v2 v3 v4 v5 v6 v7 : Int), (0 ≤ v0 ∧ v0 ≤ 1) → (0 ≤ v1 ∧ v1 ≤ 4294967295) → (0 ≤ v2 ∧ v2 ≤ 4294967295) → (0 ≤ v3 ∧ v3 ≤ 4294967295) → (0 ≤ v4 ∧ v4 ≤ 4294967295) → (0 ≤ v5 ∧ v5 ≤ 4294967295) → (0 ≤ v6 ∧ v6 ≤ 4294967295) → ((-9223372036854775808) ≤ v7 ∧ v7 ≤ 9223372036854775807) → pre 22 [v0, v1, v2, v3, v4, v5, v6, v7] → p22 T I M pre (fun ys => ys = T.fn 22 [v0, v1, v2, v3, v4, v5, v6, v7]) v0 v1 v2 v3 v4 v5 v6 v7) : CT Try.prog T.fns (pres pre) 22 s22 :=
  T.ctq (F := ⟨c22, []⟩) (fuel := 250) v22 Try.checked.mixed hs ht hg hC Try.func22 I M (fun _ h _ => h) fun xs hx hp => by
    match xs, hx, hp with
    | [v0, v1, v2, v3, v4, v5, v6, v7], hx, hp => rw [q22]; exact h v0 v1 v2 v3 v4 v5 v6 v7 hx.1 hx.2.1 hx.2.2.1 hx.2.2.2.1 hx.2.2.2.2.1 hx.2.2.2.2.2.1 hx.2.2.2.2.2.2.1 hx.2.2.2.2.2.2.2.1 hp

/-- loop.example/g01242/impl.PowerWide -/
noncomputable def c30 : Cfg := ⟨Try.prog, [(44, s44), (64, s64), (17, s17)]⟩
def iv30 : List Iv := [⟨0, 1⟩, ⟨0, 4294967295⟩, ⟨0, 4294967295⟩, ⟨0, 4294967295⟩, ⟨0, 4294967295⟩, ⟨0, 4294967295⟩, ⟨0, 4294967295⟩, ⟨(-9223372036854775808), 9223372036854775807⟩]
def t30 : VC :=
 (.call 44 (.e (.var 0) (.e (.var 1) (.e (.var 2) (.e (.var 3) (.e (.var 4) (.e (.var 5) (.e (.var 6) .nil))))))) 1
 (.ite (.not (.eq (.var 8) (.lit 1)))
  (.fin (.e (.lit 0) (.e (.lit 0) (.e (.lit 0) (.e (.lit 0) (.e (.lit 0) (.e (.lit 0) (.e (.lit 0) (.e (.lit 1) .nil)))))))))
  (.ite (.le (.lit 0) (.var 7))
   (.ite (.lt (.lit 191) (.var 7))
    (.fin (.e (.lit 0) (.e (.lit 0) (.e (.lit 0) (.e (.lit 0) (.e (.lit 0) (.e (.lit 0) (.e (.lit 0) (.e (.lit 2) .nil)))))))))
    (.call 64 (.e (.lit 1) .nil) 7
    (.loop 0 [(.lit 0), (.ite (.eq (.var 9) (.lit 1)) (.lit 1) (.lit 0)), (.var 10), (.var 11), (.var 12), (.var 13), (.var 14), (.var 15)] [⟨0, 191⟩, ⟨0, 1⟩, ⟨0, 4294967295⟩, ⟨0, 4294967295⟩, ⟨0, 4294967295⟩, ⟨0, 4294967295⟩, ⟨0, 4294967295⟩, ⟨0, 4294967295⟩]
     (.ite (.lt (.var 16) (.var 7))
      (.call 17 (.e (.var 17) (.e (.var 18) (.e (.var 19) (.e (.var 20) (.e (.var 21) (.e (.var 22) (.e (.var 23) (.e (.var 0) (.e (.var 1) (.e (.var 2) (.e (.var 3) (.e (.var 4) (.e (.var 5) (.e (.var 6) .nil)))))))))))))) 8
      (.ite (.not (.eq (.var 31) (.lit 0)))
       (.fin (.e (.lit 0) (.e (.lit 0) (.e (.lit 0) (.e (.lit 0) (.e (.lit 0) (.e (.lit 0) (.e (.lit 0) (.e (.var 31) .nil)))))))))
       (.again 0 16 [⟨0, 191⟩, ⟨0, 1⟩, ⟨0, 4294967295⟩, ⟨0, 4294967295⟩, ⟨0, 4294967295⟩, ⟨0, 4294967295⟩, ⟨0, 4294967295⟩, ⟨0, 4294967295⟩] [(.add (.var 16) (.lit 1)), (.ite (.eq (.var 24) (.lit 1)) (.lit 1) (.lit 0)), (.var 25), (.var 26), (.var 27), (.var 28), (.var 29), (.var 30)])))
      (.fin (.e (.var 17) (.e (.var 18) (.e (.var 19) (.e (.var 20) (.e (.var 21) (.e (.var 22) (.e (.var 23) (.e (.lit 0) .nil)))))))))))))
   (.fin (.e (.lit 0) (.e (.lit 0) (.e (.lit 0) (.e (.lit 0) (.e (.lit 0) (.e (.lit 0) (.e (.lit 0) (.e (.lit 2) .nil))))))))))))
theorem v30 : vcOfI ⟨c30, [(7, ⟨0, [22], [2], [23, 25, 26, 27, 24, 28, 29, 7, 8, 30, 31, 32, 33, 5, 34, 35], [⟨0, 191⟩, ⟨0, 1⟩, ⟨0, 4294967295⟩, ⟨0, 4294967295⟩, ⟨0, 4294967295⟩, ⟨0, 4294967295⟩, ⟨0, 4294967295⟩, ⟨0, 4294967295⟩]⟩)]⟩ iv30 250 Try.f30 s30 = t30 := by kernel_rfl
set_option linter.unusedVariables false in
def p30 (T : Tab) (I : Nat → List Int → List Int → Prop) (M : Nat → List Int → List Int → Nat) (pre : Nat → List Int → Prop) (post : List Int → Prop) (v0 v1 v2 v3 v4 v5 v6 v7 : Int) : Prop :=
 ∀ v8 : Int, [v8] = T.out 44 1 [v0, v1, v2, v3, v4, v5, v6] →
 (((!decide ((v8 : Int) = 1)) = true →
  post [0, 0, 0, 0, 0, 0, 0, 1]) ∧ ((!decide ((v8 : Int) = 1)) = false →
  ((decide ((0 : Int) ≤ v7) = true →
   ((decide ((191 : Int) < v7) = true →
    post [0, 0, 0, 0, 0, 0, 0, 2]) ∧ (decide ((191 : Int) < v7) = false →
    ∀ v9 v10 v11 v12 v13 v14 v15 : Int, [v9, v10, v11, v12, v13, v14, v15] = T.out 64 7 [1] →
    ((allHas [⟨0, 191⟩, ⟨0, 1⟩, ⟨0, 4294967295⟩, ⟨0, 4294967295⟩, ⟨0, 4294967295⟩, ⟨0, 4294967295⟩, ⟨0, 4294967295⟩, ⟨0, 4294967295⟩] [0, (if decide ((v9 : Int) = 1) = true then 1 else 0), v10, v11, v12, v13, v14, v15] ∧ I 0 [v0, v1, v2, v3, v4, v5, v6, v7, v8, v9, v10, v11, v12, v13, v14, v15] [0, (if decide ((v9 : Int) = 1) = true then 1 else 0), v10, v11, v12, v13, v14, v15]) ∧ ∀ v16 v17 v18 v19 v20 v21 v22 v23 : Int, allHas [⟨0, 191⟩, ⟨0, 1⟩, ⟨0, 4294967295⟩, ⟨0, 4294967295⟩, ⟨0, 4294967295⟩, ⟨0, 4294967295⟩, ⟨0, 4294967295⟩, ⟨0, 4294967295⟩] [v16, v17, v18, v19, v20, v21, v22, v23] → I 0 [v0, v1, v2, v3, v4, v5, v6, v7, v8, v9, v10, v11, v12, v13, v14, v15] [v16, v17, v18, v19, v20, v21, v22, v23] →
     ((decide ((v16 : Int) < v7) = true →
      ∀ v24 v25 v26 v27 v28 v29 v30 v31 : Int, [v24, v25, v26, v27, v28, v29, v30, v31] = T.out 17 8 [v17, v18, v19, v20, v21, v22, v23, v0, v1, v2, v3, v4, v5, v6] →
      (((!decide ((v31 : Int) = 0)) = true →
       post [0, 0, 0, 0, 0, 0, 0, v31]) ∧ ((!decide ((v31 : Int) = 0)) = false →
       (allHas [⟨0, 191⟩, ⟨0, 1⟩, ⟨0, 4294967295⟩, ⟨0, 4294967295⟩, ⟨0, 4294967295⟩, ⟨0, 4294967295⟩, ⟨0, 4294967295⟩, ⟨0, 4294967295⟩] [(v16 + 1), (if decide ((v24 : Int) = 1) = true then 1 else 0), v25, v26, v27, v28, v29, v30] ∧ I 0 [v0, v1, v2, v3, v4, v5, v6, v7, v8, v9, v10, v11, v12, v13, v14, v15] [(v16 + 1), (if decide ((v24 : Int) = 1) = true then 1 else 0), v25, v26, v27, v28, v29, v30] ∧ M 0 [v0, v1, v2, v3, v4, v5, v6, v7, v8, v9, v10, v11, v12, v13, v14, v15] [(v16 + 1), (if decide ((v24 : Int) = 1) = true then 1 else 0), v25, v26, v27, v28, v29, v30] < M 0 [v0, v1, v2, v3, v4, v5, v6, v7, v8, v9, v10, v11, v12, v13, v14, v15] [v16, v17, v18, v19, v20, v21, v22, v23])))) ∧ (decide ((v16 : Int) < v7) = false →
      post [v17, v18, v19, v20, v21, v22, v23, 0])))))) ∧ (decide ((0 : Int) ≤ v7) = false →
   post [0, 0, 0, 0, 0, 0, 0, 2]))))
theorem q30 (T : Tab) (I : Nat → List Int → List Int → Prop) (M : Nat → List Int → List Int → Nat) (pre : Nat → List Int → Prop) (post : List Int → Prop) (v0 v1 v2 v3 v4 v5 v6 v7 : Int) : t30.plain T (presL pre I M) post ⟨[v0, v1, v2, v3, v4, v5, v6, v7], []⟩ = p30 T I M pre post v0 v1 v2 v3 v4 v5 v6 v7 := by kernel_rfl
theorem k30 (T : Tab) (I : Nat → List Int → List Int → Prop) (M : Nat → List Int → List Int → Nat) (pre : Nat → List Int → Prop) (hs : SubSig T c30.sigs) (ht : Tot pre c30.sigs) (hg : T.sig 30 = some s30) (hC : CtAll Try.prog T.fns (pres pre) c30.sigs)
    (h : ∀ (v0 v1 v2 v3 v4 v5 v6 v7 : Int), (0 ≤ v0 ∧ v0 ≤ 1) → (0 ≤ v1 ∧ v1 ≤ 4294967295) → (0 ≤ v2 ∧ v2 ≤ 4294967295) → (0 ≤ v3 ∧ v3 ≤ 4294967295) → (0 ≤ v4 ∧ v4 ≤ 4294967295) → (0 ≤ v5 ∧ v5 ≤ 4294967295) → (0 ≤ v6 ∧ v6 ≤ 4294967295) → ((-9223372036854775808) ≤ v7 ∧ v7 ≤ 9223372036854775807) → pre 30 [v0, v1, v2, v3, v4, v5, v6, v7] → p30 T I M pre (fun ys => ys = T.fn 30 [v0, v1, v2, v3, v4, v5, v6, v7]) v0 v1 v2 v3 v4 v5 v6 v7) : CT Try.prog T.fns (pres pre) 30 s30 :=
  T.ctq (F := ⟨c30, [(7, ⟨0, [22], [2], [23, 25, 26, 27, 24, 28, 29, 7, 8, 30, 31, 32, 33, 5, 34, 35], [⟨0, 191⟩, ⟨0, 1⟩, ⟨0, 4294967295⟩, ⟨0, 4294967295⟩, ⟨0, 4294967295⟩, ⟨0, 4294967295⟩, ⟨0, 4294967295⟩, ⟨0, 4294967295⟩]⟩)]⟩) (fuel := 250) v30 Try.checked.mixed hs ht hg hC Try.func30 I M (fun _ h _ => h) fun xs hx hp => by
    match xs, hx, hp with
    | [v0, v1, v2, v3, v4, v5, v6, v7], hx, hp => rw [q30]; exact h v0 v1 v2 v3 v4 v5 v6 v7 hx.1 hx.2.1 hx.2.2.1 hx.2.2.2.1 hx.2.2.2.2.1 hx.2.2.2.2.2.1 hx.2.2.2.2.2.2.1 hx.2.2.2.2.2.2.2.1 hp

end Go.Proofs.Ytmlmdicdblgcfaa.Sx
