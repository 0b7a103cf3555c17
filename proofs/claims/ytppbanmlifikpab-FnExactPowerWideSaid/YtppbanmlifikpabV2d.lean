/-
  What the symbolic executor asks of these functions, written out by a program of mine, and that it asks just this.
-/
import Derived.Test.YtppbanmlifikpabV2s
import Derived.Test.YtppbanmlifikpabChecked
import Derived.KernelRfl
namespace Go.Proofs.Ytppbanmlifikpab.Sx
open Go Go.RowKit
/-- loop.example/g01242/spec.PowerWide -/
noncomputable def c27 : Cfg := ⟨Try.prog, [(35, s35), (42, s42), (61, s61), (36, s36)]⟩
def iv27 : List Iv := [⟨0, 1⟩, ⟨0, 4294967295⟩, ⟨0, 4294967295⟩, ⟨0, 4294967295⟩, ⟨0, 4294967295⟩, ⟨0, 4294967295⟩, ⟨0, 4294967295⟩, ⟨(-9223372036854775808), 9223372036854775807⟩]
def t27 : VC :=
 (.call 35 (.e (.var 0) (.e (.var 1) (.e (.var 2) (.e (.var 3) (.e (.var 4) (.e (.var 5) (.e (.var 6) .nil))))))) 1
 (.ite (.not (.eq (.var 8) (.lit 1)))
  (.fin (.e (.lit 0) (.e (.lit 0) (.e (.lit 0) (.e (.lit 0) (.e (.lit 0) (.e (.lit 0) (.e (.lit 0) (.e (.lit 1) .nil)))))))))
  (.call 42 (.e (.var 7) .nil) 1
  (.ite (.not (.eq (.var 9) (.lit 1)))
   (.fin (.e (.lit 0) (.e (.lit 0) (.e (.lit 0) (.e (.lit 0) (.e (.lit 0) (.e (.lit 0) (.e (.lit 0) (.e (.lit 2) .nil)))))))))
   (.call 61 (.e (.lit 1) .nil) 7
   (.loop 0 [(.lit 0), (.ite (.eq (.var 10) (.lit 1)) (.lit 1) (.lit 0)), (.var 11), (.var 12), (.var 13), (.var 14), (.var 15), (.var 16)] [⟨0, 191⟩, ⟨0, 1⟩, ⟨0, 4294967295⟩, ⟨0, 4294967295⟩, ⟨0, 4294967295⟩, ⟨0, 4294967295⟩, ⟨0, 4294967295⟩, ⟨0, 4294967295⟩]
    (.ite (.lt (.var 17) (.var 7))
     (.call 36 (.e (.var 18) (.e (.var 19) (.e (.var 20) (.e (.var 21) (.e (.var 22) (.e (.var 23) (.e (.var 24) (.e (.var 0) (.e (.var 1) (.e (.var 2) (.e (.var 3) (.e (.var 4) (.e (.var 5) (.e (.var 6) .nil)))))))))))))) 8
     (.ite (.not (.eq (.var 32) (.lit 0)))
      (.fin (.e (.lit 0) (.e (.lit 0) (.e (.lit 0) (.e (.lit 0) (.e (.lit 0) (.e (.lit 0) (.e (.lit 0) (.e (.var 32) .nil)))))))))
      (.again 0 17 [⟨0, 191⟩, ⟨0, 1⟩, ⟨0, 4294967295⟩, ⟨0, 4294967295⟩, ⟨0, 4294967295⟩, ⟨0, 4294967295⟩, ⟨0, 4294967295⟩, ⟨0, 4294967295⟩] [(.add (.var 17) (.lit 1)), (.ite (.eq (.var 25) (.lit 1)) (.lit 1) (.lit 0)), (.var 26), (.var 27), (.var 28), (.var 29), (.var 30), (.var 31)])))
     (.fin (.e (.var 18) (.e (.var 19) (.e (.var 20) (.e (.var 21) (.e (.var 22) (.e (.var 23) (.e (.var 24) (.e (.lit 0) .nil))))))))))))))))
theorem v27 : vcOfI ⟨c27, [(7, ⟨0, [7], [2], [18, 19, 20, 24, 25, 26, 23, 27, 28, 8, 9, 29, 30, 31, 32, 5, 33, 21, 22], [⟨0, 191⟩, ⟨0, 1⟩, ⟨0, 4294967295⟩, ⟨0, 4294967295⟩, ⟨0, 4294967295⟩, ⟨0, 4294967295⟩, ⟨0, 4294967295⟩, ⟨0, 4294967295⟩]⟩)]⟩ iv27 250 Try.f27 s27 = t27 := by kernel_rfl
set_option linter.unusedVariables false in
def p27 (T : Tab) (I : Nat → List Int → List Int → Prop) (M : Nat → List Int → List Int → Nat) (pre : Nat → List Int → Prop) (post : List Int → Prop) (v0 v1 v2 v3 v4 v5 v6 v7 : Int) : Prop :=
 ∀ v8 : Int, [v8] = T.out 35 1 [v0, v1, v2, v3, v4, v5, v6] →
 (((!decide ((v8 : Int) = 1)) = true →
  post [0, 0, 0, 0, 0, 0, 0, 1]) ∧ ((!decide ((v8 : Int) = 1)) = false →
  ∀ v9 : Int, [v9] = T.out 42 1 [v7] →
  (((!decide ((v9 : Int) = 1)) = true →
   post [0, 0, 0, 0, 0, 0, 0, 2]) ∧ ((!decide ((v9 : Int) = 1)) = false →
   ∀ v10 v11 v12 v13 v14 v15 v16 : Int, [v10, v11, v12, v13, v14, v15, v16] = T.out 61 7 [1] →
   ((allHas [⟨0, 191⟩, ⟨0, 1⟩, ⟨0, 4294967295⟩, ⟨0, 4294967295⟩, ⟨0, 4294967295⟩, ⟨0, 4294967295⟩, ⟨0, 4294967295⟩, ⟨0, 4294967295⟩] [0, (if decide ((v10 : Int) = 1) = true then 1 else 0), v11, v12, v13, v14, v15, v16] ∧ I 0 [v0, v1, v2, v3, v4, v5, v6, v7, v8, v9, v10, v11, v12, v13, v14, v15, v16] [0, (if decide ((v10 : Int) = 1) = true then 1 else 0), v11, v12, v13, v14, v15, v16]) ∧ ∀ v17 v18 v19 v20 v21 v22 v23 v24 : Int, allHas [⟨0, 191⟩, ⟨0, 1⟩, ⟨0, 4294967295⟩, ⟨0, 4294967295⟩, ⟨0, 4294967295⟩, ⟨0, 4294967295⟩, ⟨0, 4294967295⟩, ⟨0, 4294967295⟩] [v17, v18, v19, v20, v21, v22, v23, v24] → I 0 [v0, v1, v2, v3, v4, v5, v6, v7, v8, v9, v10, v11, v12, v13, v14, v15, v16] [v17, v18, v19, v20, v21, v22, v23, v24] →
    ((decide ((v17 : Int) < v7) = true →
     ∀ v25 v26 v27 v28 v29 v30 v31 v32 : Int, [v25, v26, v27, v28, v29, v30, v31, v32] = T.out 36 8 [v18, v19, v20, v21, v22, v23, v24, v0, v1, v2, v3, v4, v5, v6] →
     (((!decide ((v32 : Int) = 0)) = true →
      post [0, 0, 0, 0, 0, 0, 0, v32]) ∧ ((!decide ((v32 : Int) = 0)) = false →
      (allHas [⟨0, 191⟩, ⟨0, 1⟩, ⟨0, 4294967295⟩, ⟨0, 4294967295⟩, ⟨0, 4294967295⟩, ⟨0, 4294967295⟩, ⟨0, 4294967295⟩, ⟨0, 4294967295⟩] [(v17 + 1), (if decide ((v25 : Int) = 1) = true then 1 else 0), v26, v27, v28, v29, v30, v31] ∧ I 0 [v0, v1, v2, v3, v4, v5, v6, v7, v8, v9, v10, v11, v12, v13, v14, v15, v16] [(v17 + 1), (if decide ((v25 : Int) = 1) = true then 1 else 0), v26, v27, v28, v29, v30, v31] ∧ M 0 [v0, v1, v2, v3, v4, v5, v6, v7, v8, v9, v10, v11, v12, v13, v14, v15, v16] [(v17 + 1), (if decide ((v25 : Int) = 1) = true then 1 else 0), v26, v27, v28, v29, v30, v31] < M 0 [v0, v1, v2, v3, v4, v5, v6, v7, v8, v9, v10, v11, v12, v13, v14, v15, v16] [v17, v18, v19, v20, v21, v22, v23, v24])))) ∧ (decide ((v17 : Int) < v7) = false →
     post [v18, v19, v20, v21, v22, v23, v24, 0])))))))
theorem q27 (T : Tab) (I : Nat → List Int → List Int → Prop) (M : Nat → List Int → List Int → Nat) (pre : Nat → List Int → Prop) (post : List Int → Prop) (v0 v1 v2 v3 v4 v5 v6 v7 : Int) : t27.plain T (presL pre I M) post ⟨[v0, v1, v2, v3, v4, v5, v6, v7], []⟩ = p27 T I M pre post v0 v1 v2 v3 v4 v5 v6 v7 := by kernel_rfl
theorem k27 (T : Tab) (I : Nat → List Int → List Int → Prop) (M : Nat → List Int → List Int → Nat) (pre : Nat → List Int → Prop) (hs : SubSig T c27.sigs) (ht : Tot pre c27.sigs) (hg : T.sig 27 = some s27) (hC : CtAll Try.prog T.fns (pres pre) c27.sigs)
    (h : ∀ (v0 v1 v2 v3 v4 v5 v6 v7 : Int), (0 ≤ v0 ∧ v0 ≤ 1) → (0 ≤ v1 ∧ v1 ≤ 4294967295) → (0 ≤ v2 ∧ v2 ≤ 4294967295) → (0 ≤ v3 ∧ v3 ≤ 4294967295) → (0 ≤ v4 ∧ v4 ≤ 4294967295) → (0 ≤ v5 ∧ v5 ≤ 4294967295) → (0 ≤ v6 ∧ v6 ≤ 4294967295) → ((-9223372036854775808) ≤ v7 ∧ v7 ≤ 9223372036854775807) → pre 27 [v0, v1, v2, v3, v4, v5, v6, v7] → p27 T I M pre (fun ys => ys = T.fn 27 [v0, v1, v2, v3, v4, v5, v6, v7]) v0 v1 v2 v3 v4 v5 v6 v7) : CT Try.prog T.fns (pres pre) 27 s27 :=
  T.ctq (F := ⟨c27, [(7, ⟨0, [7], [2], [18, 19, 20, 24, 25, 26, 23, 27, 28, 8, 9, 29, 30, 31, 32, 5, 33, 21, 22], [⟨0, 191⟩, ⟨0, 1⟩, ⟨0, 4294967295⟩, ⟨0, 4294967295⟩, ⟨0, 4294967295⟩, ⟨0, 4294967295⟩, ⟨0, 4294967295⟩, ⟨0, 4294967295⟩]⟩)]⟩) (fuel := 250) v27 Try.checked.mixed hs ht hg hC Try.func27 I M (fun _ h _ => h) fun xs hx hp => by
    match xs, hx, hp with
    | [v0, v1, v2, v3, v4, v5, v6, v7], hx, hp => rw [q27]; exact h v0 v1 v2 v3 v4 v5 v6 v7 hx.1 hx.2.1 hx.2.2.1 hx.2.2.2.1 hx.2.2.2.2.1 hx.2.2.2.2.2.1 hx.2.2.2.2.2.2.1 hx.2.2.2.2.2.2.2.1 hp

/-- loop.example/g01242/impl.ValidWide -/
noncomputable def c38 : Cfg := ⟨Try.prog, []⟩
def iv38 : List Iv := [⟨0, 1⟩, ⟨0, 4294967295⟩, ⟨0, 4294967295⟩, ⟨0, 4294967295⟩, ⟨0, 4294967295⟩, ⟨0, 4294967295⟩, ⟨0, 4294967295⟩]
def t38 : VC :=
 (.ite (.eq (.var 0) (.lit 1))
  (.bind (.ite (.not (.and (.eq (.var 1) (.lit 0)) (.and (.eq (.var 2) (.lit 0)) (.and (.eq (.var 3) (.lit 0)) (.and (.eq (.var 4) (.lit 0)) (.and (.eq (.var 5) (.lit 0)) (.eq (.var 6) (.lit 0)))))))) (.lit 1) (.lit 0))
  (.fin (.e (.var 7) .nil)))
  (.fin (.e (.lit 1) .nil)))
theorem v38 : vcOfI ⟨c38, []⟩ iv38 250 Try.f38 s38 = t38 := by kernel_rfl
set_option linter.unusedVariables false in
def p38 (T : Tab) (I : Nat → List Int → List Int → Prop) (M : Nat → List Int → List Int → Nat) (pre : Nat → List Int → Prop) (post : List Int → Prop) (v0 v1 v2 v3 v4 v5 v6 : Int) : Prop :=
 ((decide ((v0 : Int) = 1) = true →
  ∀ v7 : Int, v7 = (if (!(decide ((v1 : Int) = 0) && (decide ((v2 : Int) = 0) && (decide ((v3 : Int) = 0) && (decide ((v4 : Int) = 0) && (decide ((v5 : Int) = 0) && decide ((v6 : Int) = 0))))))) = true then 1 else 0) →
  post [v7]) ∧ (decide ((v0 : Int) = 1) = false →
  post [1]))
theorem q38 (T : Tab) (I : Nat → List Int → List Int → Prop) (M : Nat → List Int → List Int → Nat) (pre : Nat → List Int → Prop) (post : List Int → Prop) (v0 v1 v2 v3 v4 v5 v6 : Int) : t38.plain T (presL pre I M) post ⟨[v0, v1, v2, v3, v4, v5, v6], []⟩ = p38 T I M pre post v0 v1 v2 v3 v4 v5 v6 := by kernel_rfl
theorem k38 (T : Tab) (I : Nat → List Int → List Int → Prop) (M : Nat → List Int → List Int → Nat) (pre : Nat → List Int → Prop) (hs : SubSig T c38.sigs) (ht : Tot pre c38.sigs) (hg : T.sig 38 = some s38) (hC : CtAll Try.prog T.fns (pres pre) c38.sigs)
    (h : ∀ (v0 v1 v2 v3 v4 v5 v6 : Int), (0 ≤ v0 ∧ v0 ≤ 1) → (0 ≤ v1 ∧ v1 ≤ 4294967295) → (0 ≤ v2 ∧ v2 ≤ 4294967295) → (0 ≤ v3 ∧ v3 ≤ 4294967295) → (0 ≤ v4 ∧ v4 ≤ 4294967295) → (0 ≤ v5 ∧ v5 ≤ 4294967295) → (0 ≤ v6 ∧ v6 ≤ 4294967295) → pre 38 [v0, v1, v2, v3, v4, v5, v6] → p38 T I M pre (fun ys => ys = T.fn 38 [v0, v1, v2, v3, v4, v5, v6]) v0 v1 v2 v3 v4 v5 v6) : CT Try.prog T.fns (pres pre) 38 s38 :=
  T.ctq (F := ⟨c38, []⟩) (fuel := 250) v38 Try.checked.mixed hs ht hg hC Try.func38 I M (fun _ h _ => h) fun xs hx hp => by
    match xs, hx, hp with
    | [v0, v1, v2, v3, v4, v5, v6], hx, hp => rw [q38]; exact h v0 v1 v2 v3 v4 v5 v6 hx.1 hx.2.1 hx.2.2.1 hx.2.2.2.1 hx.2.2.2.2.1 hx.2.2.2.2.2.1 hx.2.2.2.2.2.2.1 hp

/-- loop.example/g01242/impl.WideOf -/
noncomputable def c58 : Cfg := ⟨Try.prog, [(52, s52)]⟩
def iv58 : List Iv := [⟨(-9223372036854775808), 9223372036854775807⟩]
def t58 : VC :=
 (.bind (.wrap .u64 (.var 0))
 (.ite (.lt (.var 0) (.lit 0))
  (.bind (.wrap .u64 (.sub (.lit 0) (.var 1)))
  (.call 52 (.e (.lit 1) (.e (.wrap .u32 (.var 2)) (.e (.div (.var 2) (.lit 4294967296)) (.e (.lit 0) (.e (.lit 0) (.e (.lit 0) (.e (.lit 0) .nil))))))) 7
  (.fin (.e (.var 3) (.e (.var 4) (.e (.var 5) (.e (.var 6) (.e (.var 7) (.e (.var 8) (.e (.var 9) .nil))))))))))
  (.call 52 (.e (.lit 0) (.e (.wrap .u32 (.var 1)) (.e (.div (.var 1) (.lit 4294967296)) (.e (.lit 0) (.e (.lit 0) (.e (.lit 0) (.e (.lit 0) .nil))))))) 7
  (.fin (.e (.var 2) (.e (.var 3) (.e (.var 4) (.e (.var 5) (.e (.var 6) (.e (.var 7) (.e (.var 8) .nil)))))))))))
theorem v58 : vcOfI ⟨c58, []⟩ iv58 250 Try.f58 s58 = t58 := by kernel_rfl
set_option linter.unusedVariables false in
def p58 (T : Tab) (I : Nat → List Int → List Int → Prop) (M : Nat → List Int → List Int → Nat) (pre : Nat → List Int → Prop) (post : List Int → Prop) (v0 : Int) : Prop :=
 ∀ v1 : Int, v1 = (IntKind.wrap .u64 v0) →
 ((decide ((v0 : Int) < 0) = true →
  ∀ v2 : Int, v2 = (IntKind.wrap .u64 (0 - v1)) →
  ∀ v3 v4 v5 v6 v7 v8 v9 : Int, [v3, v4, v5, v6, v7, v8, v9] = T.out 52 7 [1, (IntKind.wrap .u32 v2), (v2 / 4294967296), 0, 0, 0, 0] →
  post [v3, v4, v5, v6, v7, v8, v9]) ∧ (decide ((v0 : Int) < 0) = false →
  ∀ v2 v3 v4 v5 v6 v7 v8 : Int, [v2, v3, v4, v5, v6, v7, v8] = T.out 52 7 [0, (IntKind.wrap .u32 v1), (v1 / 4294967296), 0, 0, 0, 0] →
  post [v2, v3, v4, v5, v6, v7, v8]))
theorem q58 (T : Tab) (I : Nat → List Int → List Int → Prop) (M : Nat → List Int → List Int → Nat) (pre : Nat → List Int → Prop) (post : List Int → Prop) (v0 : Int) : t58.plain T (presL pre I M) post ⟨[v0], []⟩ = p58 T I M pre post v0 := by kernel_rfl
theorem k58 (T : Tab) (I : Nat → List Int → List Int → Prop) (M : Nat → List Int → List Int → Nat) (pre : Nat → List Int → Prop) (hs : SubSig T c58.sigs) (ht : Tot pre c58.sigs) (hg : T.sig 58 = some s58) (hC : CtAll Try.prog T.fns (pres pre) c58.sigs)
    (h : ∀ (v0 : Int), ((-9223372036854775808) ≤ v0 ∧ v0 ≤ 9223372036854775807) → pre 58 [v0] → p58 T I M pre (fun ys => ys = T.fn 58 [v0]) v0) : CT Try.prog T.fns (pres pre) 58 s58 :=
  T.ctq (F := ⟨c58, []⟩) (fuel := 250) v58 Try.checked.mixed hs ht hg hC Try.func58 I M (fun _ h _ => h) fun xs hx hp => by
    match xs, hx, hp with
    | [v0], hx, hp => rw [q58]; exact h v0 hx.1 hp

/-- loop.example/g01242/impl.wideOfSize -/
noncomputable def c52 : Cfg := ⟨Try.prog, [(44, s44)]⟩
def iv52 : List Iv := [⟨0, 1⟩, ⟨0, 4294967295⟩, ⟨0, 4294967295⟩, ⟨0, 4294967295⟩, ⟨0, 4294967295⟩, ⟨0, 4294967295⟩, ⟨0, 4294967295⟩]
def t52 : VC :=
 (.ite (.eq (.var 0) (.lit 1))
  (.call 44 (.e (.var 1) (.e (.var 2) (.e (.var 3) (.e (.var 4) (.e (.var 5) (.e (.var 6) .nil)))))) 1
  (.fin (.e (.ite (.not (.eq (.var 7) (.lit 1))) (.lit 1) (.lit 0)) (.e (.var 1) (.e (.var 2) (.e (.var 3) (.e (.var 4) (.e (.var 5) (.e (.var 6) .nil)))))))))
  (.fin (.e (.lit 0) (.e (.var 1) (.e (.var 2) (.e (.var 3) (.e (.var 4) (.e (.var 5) (.e (.var 6) .nil)))))))))
theorem v52 : vcOfI ⟨c52, []⟩ iv52 250 Try.f52 s52 = t52 := by kernel_rfl
set_option linter.unusedVariables false in
def p52 (T : Tab) (I : Nat → List Int → List Int → Prop) (M : Nat → List Int → List Int → Nat) (pre : Nat → List Int → Prop) (post : List Int → Prop) (v0 v1 v2 v3 v4 v5 v6 : Int) : Prop :=
 ((decide ((v0 : Int) = 1) = true →
  ∀ v7 : Int, [v7] = T.out 44 1 [v1, v2, v3, v4, v5, v6] →
  post [(if (!decide ((v7 : Int) = 1)) = true then 1 else 0), v1, v2, v3, v4, v5, v6]) ∧ (decide ((v0 : Int) = 1) = false →
  post [0, v1, v2, v3, v4, v5, v6]))
theorem q52 (T : Tab) (I : Nat → List Int → List Int → Prop) (M : Nat → List Int → List Int → Nat) (pre : Nat → List Int → Prop) (post : List Int → Prop) (v0 v1 v2 v3 v4 v5 v6 : Int) : t52.plain T (presL pre I M) post ⟨[v0, v1, v2, v3, v4, v5, v6], []⟩ = p52 T I M pre post v0 v1 v2 v3 v4 v5 v6 := by kernel_rfl
theorem k52 (T : Tab) (I : Nat → List Int → List Int → Prop) (M : Nat → List Int → List Int → Nat) (pre : Nat → List Int → Prop) (hs : SubSig T c52.sigs) (ht : Tot pre c52.sigs) (hg : T.sig 52 = some s52) (hC : CtAll Try.prog T.fns (pres pre) c52.sigs)
    (h : ∀ (v0 v1 v2 v3 v4 v5 v6 : Int), (0 ≤ v0 ∧ v0 ≤ 1) → (0 ≤ v1 ∧ v1 ≤ 4294967295) → (0 ≤ v2 ∧ v2 ≤ 4294967295) → (0 ≤ v3 ∧ v3 ≤ 4294967295) → (0 ≤ v4 ∧ v4 ≤ 4294967295) → (0 ≤ v5 ∧ v5 ≤ 4294967295) → (0 ≤ v6 ∧ v6 ≤ 4294967295) → pre 52 [v0, v1, v2, v3, v4, v5, v6] → p52 T I M pre (fun ys => ys = T.fn 52 [v0, v1, v2, v3, v4, v5, v6]) v0 v1 v2 v3 v4 v5 v6) : CT Try.prog T.fns (pres pre) 52 s52 :=
  T.ctq (F := ⟨c52, []⟩) (fuel := 250) v52 Try.checked.mixed hs ht hg hC Try.func52 I M (fun _ h _ => h) fun xs hx hp => by
    match xs, hx, hp with
    | [v0, v1, v2, v3, v4, v5, v6], hx, hp => rw [q52]; exact h v0 v1 v2 v3 v4 v5 v6 hx.1 hx.2.1 hx.2.2.1 hx.2.2.2.1 hx.2.2.2.2.1 hx.2.2.2.2.2.1 hx.2.2.2.2.2.2.1 hp

/-- loop.example/g01242/impl.wideWithin -/
noncomputable def c40 : Cfg := ⟨Try.prog, [(52, s52)]⟩
def iv40 : List Iv := [⟨0, 1⟩, ⟨0, 4294967295⟩, ⟨0, 4294967295⟩, ⟨0, 4294967295⟩, ⟨0, 4294967295⟩, ⟨0, 4294967295⟩, ⟨0, 4294967295⟩, ⟨0, 1⟩]
def t40 : VC :=
 (.ite (.eq (.var 7) (.lit 1))
  (.fin (.e (.lit 0) (.e (.lit 0) (.e (.lit 0) (.e (.lit 0) (.e (.lit 0) (.e (.lit 0) (.e (.lit 0) (.e (.lit 3) .nil)))))))))
  (.call 52 (.e (.var 0) (.e (.var 1) (.e (.var 2) (.e (.var 3) (.e (.var 4) (.e (.var 5) (.e (.var 6) .nil))))))) 7
  (.fin (.e (.var 8) (.e (.var 9) (.e (.var 10) (.e (.var 11) (.e (.var 12) (.e (.var 13) (.e (.var 14) (.e (.lit 0) .nil)))))))))))
theorem v40 : vcOfI ⟨c40, []⟩ iv40 250 Try.f40 s40 = t40 := by kernel_rfl
set_option linter.unusedVariables false in
def p40 (T : Tab) (I : Nat → List Int → List Int → Prop) (M : Nat → List Int → List Int → Nat) (pre : Nat → List Int → Prop) (post : List Int → Prop) (v0 v1 v2 v3 v4 v5 v6 v7 : Int) : Prop :=
 ((decide ((v7 : Int) = 1) = true →
  post [0, 0, 0, 0, 0, 0, 0, 3]) ∧ (decide ((v7 : Int) = 1) = false →
  ∀ v8 v9 v10 v11 v12 v13 v14 : Int, [v8, v9, v10, v11, v12, v13, v14] = T.out 52 7 [v0, v1, v2, v3, v4, v5, v6] →
  post [v8, v9, v10, v11, v12, v13, v14, 0]))
theorem q40 (T : Tab) (I : Nat → List Int → List Int → Prop) (M : Nat → List Int → List Int → Nat) (pre : Nat → List Int → Prop) (post : List Int → Prop) (v0 v1 v2 v3 v4 v5 v6 v7 : Int) : t40.plain T (presL pre I M) post ⟨[v0, v1, v2, v3, v4, v5, v6, v7], []⟩ = p40 T I M pre post v0 v1 v2 v3 v4 v5 v6 v7 := by kernel_rfl
theorem k40 (T : Tab) (I : Nat → List Int → List Int → Prop) (M : Nat → List Int → List Int → Nat) (pre : Nat → List Int → Prop) (hs : SubSig T c40.sigs) (ht : Tot pre c40.sigs) (hg : T.sig 40 = some s40) (hC : CtAll Try.prog T.fns (pres pre) c40.sigs)
    (h : ∀ (v0 v1 v2 v3 v4 v5 v6 v7 : Int), (0 ≤ v0 ∧ v0 ≤ 1) → (0 ≤ v1 ∧ v1 ≤ 4294967295) → (0 ≤ v2 ∧ v2 ≤ 4294967295) → (0 ≤ v3 ∧ v3 ≤ 4294967295) → (0 ≤ v4 ∧ v4 ≤ 4294967295) → (0 ≤ v5 ∧ v5 ≤ 4294967295) → (0 ≤ v6 ∧ v6 ≤ 4294967295) → (0 ≤ v7 ∧ v7 ≤ 1) → pre 40 [v0, v1, v2, v3, v4, v5, v6, v7] → p40 T I M pre (fun ys => ys = T.fn 40 [v0, v1, v2, v3, v4, v5, v6, v7]) v0 v1 v2 v3 v4 v5 v6 v7) : CT Try.prog T.fns (pres pre) 40 s40 :=
  T.ctq (F := ⟨c40, []⟩) (fuel := 250) v40 Try.checked.mixed hs ht hg hC Try.func40 I M (fun _ h _ => h) fun xs hx hp => by
    match xs, hx, hp with
    | [v0, v1, v2, v3, v4, v5, v6, v7], hx, hp => rw [q40]; exact h v0 v1 v2 v3 v4 v5 v6 v7 hx.1 hx.2.1 hx.2.2.1 hx.2.2.2.1 hx.2.2.2.2.1 hx.2.2.2.2.2.1 hx.2.2.2.2.2.2.1 hx.2.2.2.2.2.2.2.1 hp

/-- (loop.example/g01242/impl.limbs).isZero -/
noncomputable def c44 : Cfg := ⟨Try.prog, []⟩
def iv44 : List Iv := [⟨0, 4294967295⟩, ⟨0, 4294967295⟩, ⟨0, 4294967295⟩, ⟨0, 4294967295⟩, ⟨0, 4294967295⟩, ⟨0, 4294967295⟩]
def t44 : VC :=
 (.bind (.ite (.and (.eq (.var 0) (.lit 0)) (.and (.eq (.var 1) (.lit 0)) (.and (.eq (.var 2) (.lit 0)) (.and (.eq (.var 3) (.lit 0)) (.and (.eq (.var 4) (.lit 0)) (.eq (.var 5) (.lit 0))))))) (.lit 1) (.lit 0))
 (.fin (.e (.var 6) .nil)))
theorem v44 : vcOfI ⟨c44, []⟩ iv44 250 Try.f44 s44 = t44 := by kernel_rfl
set_option linter.unusedVariables false in
def p44 (T : Tab) (I : Nat → List Int → List Int → Prop) (M : Nat → List Int → List Int → Nat) (pre : Nat → List Int → Prop) (post : List Int → Prop) (v0 v1 v2 v3 v4 v5 : Int) : Prop :=
 ∀ v6 : Int, v6 = (if (decide ((v0 : Int) = 0) && (decide ((v1 : Int) = 0) && (decide ((v2 : Int) = 0) && (decide ((v3 : Int) = 0) && (decide ((v4 : Int) = 0) && decide ((v5 : Int) = 0)))))) = true then 1 else 0) →
 post [v6]
theorem q44 (T : Tab) (I : Nat → List Int → List Int → Prop) (M : Nat → List Int → List Int → Nat) (pre : Nat → List Int → Prop) (post : List Int → Prop) (v0 v1 v2 v3 v4 v5 : Int) : t44.plain T (presL pre I M) post ⟨[v0, v1, v2, v3, v4, v5], []⟩ = p44 T I M pre post v0 v1 v2 v3 v4 v5 := by kernel_rfl
theorem k44 (T : Tab) (I : Nat → List Int → List Int → Prop) (M : Nat → List Int → List Int → Nat) (pre : Nat → List Int → Prop) (hs : SubSig T c44.sigs) (ht : Tot pre c44.sigs) (hg : T.sig 44 = some s44) (hC : CtAll Try.prog T.fns (pres pre) c44.sigs)
    (h : ∀ (v0 v1 v2 v3 v4 v5 : Int), (0 ≤ v0 ∧ v0 ≤ 4294967295) → (0 ≤ v1 ∧ v1 ≤ 4294967295) → (0 ≤ v2 ∧ v2 ≤ 4294967295) → (0 ≤ v3 ∧ v3 ≤ 4294967295) → (0 ≤ v4 ∧ v4 ≤ 4294967295) → (0 ≤ v5 ∧ v5 ≤ 4294967295) → pre 44 [v0, v1, v2, v3, v4, v5] → p44 T I M pre (fun ys => ys = T.fn 44 [v0, v1, v2, v3, v4, v5]) v0 v1 v2 v3 v4 v5) : CT Try.prog T.fns (pres pre) 44 s44 :=
  T.ctq (F := ⟨c44, []⟩) (fuel := 250) v44 Try.checked.mixed hs ht hg hC Try.func44 I M (fun _ h _ => h) fun xs hx hp => by
    match xs, hx, hp with
    | [v0, v1, v2, v3, v4, v5], hx, hp => rw [q44]; exact h v0 v1 v2 v3 v4 v5 hx.1 hx.2.1 hx.2.2.1 hx.2.2.2.1 hx.2.2.2.2.1 hx.2.2.2.2.2.1 hp

/-- (loop.example/g01242/impl.limbs).compare -/
noncomputable def c50 : Cfg := ⟨Try.prog, []⟩
def iv50 : List Iv := [⟨0, 4294967295⟩, ⟨0, 4294967295⟩, ⟨0, 4294967295⟩, ⟨0, 4294967295⟩, ⟨0, 4294967295⟩, ⟨0, 4294967295⟩, ⟨0, 4294967295⟩, ⟨0, 4294967295⟩, ⟨0, 4294967295⟩, ⟨0, 4294967295⟩, ⟨0, 4294967295⟩, ⟨0, 4294967295⟩]
def t50 : VC :=
 (.ite (.and (.eq (.var 0) (.var 6)) (.and (.eq (.var 1) (.var 7)) (.and (.eq (.var 2) (.var 8)) (.and (.eq (.var 3) (.var 9)) (.and (.eq (.var 4) (.var 10)) (.eq (.var 5) (.var 11)))))))
  (.fin (.e (.lit 0) .nil))
  (.ite (.eq (.var 5) (.var 11))
   (.ite (.eq (.var 4) (.var 10))
    (.ite (.eq (.var 3) (.var 9))
     (.ite (.eq (.var 2) (.var 8))
      (.ite (.eq (.var 1) (.var 7))
       (.ite (.eq (.var 0) (.var 6))
        (.fail 16)
        (.ite (.lt (.var 0) (.var 6))
         (.fin (.e (.lit (-1)) .nil))
         (.fin (.e (.lit 1) .nil))))
       (.ite (.lt (.var 1) (.var 7))
        (.fin (.e (.lit (-1)) .nil))
        (.fin (.e (.lit 1) .nil))))
      (.ite (.lt (.var 2) (.var 8))
       (.fin (.e (.lit (-1)) .nil))
       (.fin (.e (.lit 1) .nil))))
     (.ite (.lt (.var 3) (.var 9))
      (.fin (.e (.lit (-1)) .nil))
      (.fin (.e (.lit 1) .nil))))
    (.ite (.lt (.var 4) (.var 10))
     (.fin (.e (.lit (-1)) .nil))
     (.fin (.e (.lit 1) .nil))))
   (.ite (.lt (.var 5) (.var 11))
    (.fin (.e (.lit (-1)) .nil))
    (.fin (.e (.lit 1) .nil)))))
theorem v50 : vcOfI ⟨c50, []⟩ iv50 250 Try.f50 s50 = t50 := by kernel_rfl
set_option linter.unusedVariables false in
def p50 (T : Tab) (I : Nat → List Int → List Int → Prop) (M : Nat → List Int → List Int → Nat) (pre : Nat → List Int → Prop) (post : List Int → Prop) (v0 v1 v2 v3 v4 v5 v6 v7 v8 v9 v10 v11 : Int) : Prop :=
 (((decide ((v0 : Int) = v6) && (decide ((v1 : Int) = v7) && (decide ((v2 : Int) = v8) && (decide ((v3 : Int) = v9) && (decide ((v4 : Int) = v10) && decide ((v5 : Int) = v11)))))) = true →
  post [0]) ∧ ((decide ((v0 : Int) = v6) && (decide ((v1 : Int) = v7) && (decide ((v2 : Int) = v8) && (decide ((v3 : Int) = v9) && (decide ((v4 : Int) = v10) && decide ((v5 : Int) = v11)))))) = false →
  ((decide ((v5 : Int) = v11) = true →
   ((decide ((v4 : Int) = v10) = true →
    ((decide ((v3 : Int) = v9) = true →
     ((decide ((v2 : Int) = v8) = true →
      ((decide ((v1 : Int) = v7) = true →
       ((decide ((v0 : Int) = v6) = true →
        False) ∧ (decide ((v0 : Int) = v6) = false →
        ((decide ((v0 : Int) < v6) = true →
         post [(-1)]) ∧ (decide ((v0 : Int) < v6) = false →
         post [1]))))) ∧ (decide ((v1 : Int) = v7) = false →
       ((decide ((v1 : Int) < v7) = true →
        post [(-1)]) ∧ (decide ((v1 : Int) < v7) = false →
        post [1]))))) ∧ (decide ((v2 : Int) = v8) = false →
      ((decide ((v2 : Int) < v8) = true →
       post [(-1)]) ∧ (decide ((v2 : Int) < v8) = false →
       post [1]))))) ∧ (decide ((v3 : Int) = v9) = false →
     ((decide ((v3 : Int) < v9) = true →
      post [(-1)]) ∧ (decide ((v3 : Int) < v9) = false →
      post [1]))))) ∧ (decide ((v4 : Int) = v10) = false →
    ((decide ((v4 : Int) < v10) = true →
     post [(-1)]) ∧ (decide ((v4 : Int) < v10) = false →
     post [1]))))) ∧ (decide ((v5 : Int) = v11) = false →
   ((decide ((v5 : Int) < v11) = true →
    post [(-1)]) ∧ (decide ((v5 : Int) < v11) = false →
    post [1]))))))
theorem q50 (T : Tab) (I : Nat → List Int → List Int → Prop) (M : Nat → List Int → List Int → Nat) (pre : Nat → List Int → Prop) (post : List Int → Prop) (v0 v1 v2 v3 v4 v5 v6 v7 v8 v9 v10 v11 : Int) : t50.plain T (presL pre I M) post ⟨[v0, v1, v2, v3, v4, v5, v6, v7, v8, v9, v10, v11], []⟩ = p50 T I M pre post v0 v1 v2 v3 v4 v5 v6 v7 v8 v9 v10 v11 := by kernel_rfl
theorem k50 (T : Tab) (I : Nat → List Int → List Int → Prop) (M : Nat → List Int → List Int → Nat) (pre : Nat → List Int → Prop) (hs : SubSig T c50.sigs) (ht : Tot pre c50.sigs) (hg : T.sig 50 = some s50) (hC : CtAll Try.prog T.fns (pres pre) c50.sigs)
    (h : ∀ (v0 v1 v2 v3 v4 v5 v6 v7 v8 v9 v10 v11 : Int), (0 ≤ v0 ∧ v0 ≤ 4294967295) → (0 ≤ v1 ∧ v1 ≤ 4294967295) → (0 ≤ v2 ∧ v2 ≤ 4294967295) → (0 ≤ v3 ∧ v3 ≤ 4294967295) → (0 ≤ v4 ∧ v4 ≤ 4294967295) → (0 ≤ v5 ∧ v5 ≤ 4294967295) → (0 ≤ v6 ∧ v6 ≤ 4294967295) → (0 ≤ v7 ∧ v7 ≤ 4294967295) → (0 ≤ v8 ∧ v8 ≤ 4294967295) → (0 ≤ v9 ∧ v9 ≤ 4294967295) → (0 ≤ v10 ∧ v10 ≤ 4294967295) → (0 ≤ v11 ∧ v11 ≤ 4294967295) → pre 50 [v0, v1, v2, v3, v4, v5, v6, v7, v8, v9, v10, v11] → p50 T I M pre (fun ys => ys = T.fn 50 [v0, v1, v2, v3, v4, v5, v6, v7, v8, v9, v10, v11]) v0 v1 v2 v3 v4 v5 v6 v7 v8 v9 v10 v11) : CT Try.prog T.fns (pres pre) 50 s50 :=
  T.ctq (F := ⟨c50, []⟩) (fuel := 250) v50 Try.checked.mixed hs ht hg hC Try.func50 I M (fun _ h _ => h) fun xs hx hp => by
    match xs, hx, hp with
    | [v0, v1, v2, v3, v4, v5, v6, v7, v8, v9, v10, v11], hx, hp => rw [q50]; exact h v0 v1 v2 v3 v4 v5 v6 v7 v8 v9 v10 v11 hx.1 hx.2.1 hx.2.2.1 hx.2.2.2.1 hx.2.2.2.2.1 hx.2.2.2.2.2.1 hx.2.2.2.2.2.2.1 hx.2.2.2.2.2.2.2.1 hx.2.2.2.2.2.2.2.2.1 hx.2.2.2.2.2.2.2.2.2.1 hx.2.2.2.2.2.2.2.2.2.2.1 hx.2.2.2.2.2.2.2.2.2.2.2.1 hp

/-- (loop.example/g01242/impl.limbs).plus -/
noncomputable def c71 : Cfg := ⟨Try.prog, []⟩
def iv71 : List Iv := [⟨0, 4294967295⟩, ⟨0, 4294967295⟩, ⟨0, 4294967295⟩, ⟨0, 4294967295⟩, ⟨0, 4294967295⟩, ⟨0, 4294967295⟩, ⟨0, 4294967295⟩, ⟨0, 4294967295⟩, ⟨0, 4294967295⟩, ⟨0, 4294967295⟩, ⟨0, 4294967295⟩, ⟨0, 4294967295⟩]
def t71 : VC :=
 (.bind (.add (.var 0) (.var 6))
 (.bind (.wrap .u32 (.var 12))
 (.bind (.div (.var 12) (.lit 4294967296))
 (.bind (.add (.add (.var 1) (.var 7)) (.var 14))
 (.bind (.wrap .u32 (.var 15))
 (.bind (.div (.var 15) (.lit 4294967296))
 (.bind (.add (.add (.var 2) (.var 8)) (.var 17))
 (.bind (.wrap .u32 (.var 18))
 (.bind (.div (.var 18) (.lit 4294967296))
 (.bind (.add (.add (.var 3) (.var 9)) (.var 20))
 (.bind (.wrap .u32 (.var 21))
 (.bind (.div (.var 21) (.lit 4294967296))
 (.bind (.add (.add (.var 4) (.var 10)) (.var 23))
 (.bind (.wrap .u32 (.var 24))
 (.bind (.div (.var 24) (.lit 4294967296))
 (.bind (.add (.add (.var 5) (.var 11)) (.var 26))
 (.bind (.wrap .u32 (.var 27))
 (.bind (.div (.var 27) (.lit 4294967296))
 (.fin (.e (.var 13) (.e (.var 16) (.e (.var 19) (.e (.var 22) (.e (.var 25) (.e (.var 28) (.e (.ite (.not (.eq (.var 29) (.lit 0))) (.lit 1) (.lit 0)) .nil))))))))))))))))))))))))))
theorem v71 : vcOfI ⟨c71, []⟩ iv71 250 Try.f71 s71 = t71 := by kernel_rfl
set_option linter.unusedVariables false in
def p71 (T : Tab) (I : Nat → List Int → List Int → Prop) (M : Nat → List Int → List Int → Nat) (pre : Nat → List Int → Prop) (post : List Int → Prop) (v0 v1 v2 v3 v4 v5 v6 v7 v8 v9 v10 v11 : Int) : Prop :=
 ∀ v12 : Int, v12 = (v0 + v6) →
 ∀ v13 : Int, v13 = (IntKind.wrap .u32 v12) →
 ∀ v14 : Int, v14 = (v12 / 4294967296) →
 ∀ v15 : Int, v15 = ((v1 + v7) + v14) →
 ∀ v16 : Int, v16 = (IntKind.wrap .u32 v15) →
 ∀ v17 : Int, v17 = (v15 / 4294967296) →
 ∀ v18 : Int, v18 = ((v2 + v8) + v17) →
 ∀ v19 : Int, v19 = (IntKind.wrap .u32 v18) →
 ∀ v20 : Int, v20 = (v18 / 4294967296) →
 ∀ v21 : Int, v21 = ((v3 + v9) + v20) →
 ∀ v22 : Int, v22 = (IntKind.wrap .u32 v21) →
 ∀ v23 : Int, v23 = (v21 / 4294967296) →
 ∀ v24 : Int, v24 = ((v4 + v10) + v23) →
 ∀ v25 : Int, v25 = (IntKind.wrap .u32 v24) →
 ∀ v26 : Int, v26 = (v24 / 4294967296) →
 ∀ v27 : Int, v27 = ((v5 + v11) + v26) →
 ∀ v28 : Int, v28 = (IntKind.wrap .u32 v27) →
 ∀ v29 : Int, v29 = (v27 / 4294967296) →
 post [v13, v16, v19, v22, v25, v28, (if (!decide ((v29 : Int) = 0)) = true then 1 else 0)]
theorem q71 (T : Tab) (I : Nat → List Int → List Int → Prop) (M : Nat → List Int → List Int → Nat) (pre : Nat → List Int → Prop) (post : List Int → Prop) (v0 v1 v2 v3 v4 v5 v6 v7 v8 v9 v10 v11 : Int) : t71.plain T (presL pre I M) post ⟨[v0, v1, v2, v3, v4, v5, v6, v7, v8, v9, v10, v11], []⟩ = p71 T I M pre post v0 v1 v2 v3 v4 v5 v6 v7 v8 v9 v10 v11 := by kernel_rfl
theorem k71 (T : Tab) (I : Nat → List Int → List Int → Prop) (M : Nat → List Int → List Int → Nat) (pre : Nat → List Int → Prop) (hs : SubSig T c71.sigs) (ht : Tot pre c71.sigs) (hg : T.sig 71 = some s71) (hC : CtAll Try.prog T.fns (pres pre) c71.sigs)
    (h : ∀ (v0 v1 v2 v3 v4 v5 v6 v7 v8 v9 v10 v11 : Int), (0 ≤ v0 ∧ v0 ≤ 4294967295) → (0 ≤ v1 ∧ v1 ≤ 4294967295) → (0 ≤ v2 ∧ v2 ≤ 4294967295) → (0 ≤ v3 ∧ v3 ≤ 4294967295) → (0 ≤ v4 ∧ v4 ≤ 4294967295) → (0 ≤ v5 ∧ v5 ≤ 4294967295) → (0 ≤ v6 ∧ v6 ≤ 4294967295) → (0 ≤ v7 ∧ v7 ≤ 4294967295) → (0 ≤ v8 ∧ v8 ≤ 4294967295) → (0 ≤ v9 ∧ v9 ≤ 4294967295) → (0 ≤ v10 ∧ v10 ≤ 4294967295) → (0 ≤ v11 ∧ v11 ≤ 4294967295) → pre 71 [v0, v1, v2, v3, v4, v5, v6, v7, v8, v9, v10, v11] → p71 T I M pre (fun ys => ys = T.fn 71 [v0, v1, v2, v3, v4, v5, v6, v7, v8, v9, v10, v11]) v0 v1 v2 v3 v4 v5 v6 v7 v8 v9 v10 v11) : CT Try.prog T.fns (pres pre) 71 s71 :=
  T.ctq (F := ⟨c71, []⟩) (fuel := 250) v71 Try.checked.mixed hs ht hg hC Try.func71 I M (fun _ h _ => h) fun xs hx hp => by
    match xs, hx, hp with
    | [v0, v1, v2, v3, v4, v5, v6, v7, v8, v9, v10, v11], hx, hp => rw [q71]; exact h v0 v1 v2 v3 v4 v5 v6 v7 v8 v9 v10 v11 hx.1 hx.2.1 hx.2.2.1 hx.2.2.2.1 hx.2.2.2.2.1 hx.2.2.2.2.2.1 hx.2.2.2.2.2.2.1 hx.2.2.2.2.2.2.2.1 hx.2.2.2.2.2.2.2.2.1 hx.2.2.2.2.2.2.2.2.2.1 hx.2.2.2.2.2.2.2.2.2.2.1 hx.2.2.2.2.2.2.2.2.2.2.2.1 hp

/-- (loop.example/g01242/impl.limbs).minus -/
noncomputable def c49 : Cfg := ⟨Try.prog, []⟩
def iv49 : List Iv := [⟨0, 4294967295⟩, ⟨0, 4294967295⟩, ⟨0, 4294967295⟩, ⟨0, 4294967295⟩, ⟨0, 4294967295⟩, ⟨0, 4294967295⟩, ⟨0, 4294967295⟩, ⟨0, 4294967295⟩, ⟨0, 4294967295⟩, ⟨0, 4294967295⟩, ⟨0, 4294967295⟩, ⟨0, 4294967295⟩]
def t49 : VC :=
 (.bind (.wrap .u64 (.sub (.var 0) (.var 6)))
 (.bind (.wrap .u32 (.var 12))
 (.bind (.div (.var 12) (.lit 9223372036854775808))
 (.bind (.wrap .u64 (.sub (.wrap .u64 (.sub (.var 1) (.var 7))) (.var 14)))
 (.bind (.wrap .u32 (.var 15))
 (.bind (.div (.var 15) (.lit 9223372036854775808))
 (.bind (.wrap .u64 (.sub (.wrap .u64 (.sub (.var 2) (.var 8))) (.var 17)))
 (.bind (.wrap .u32 (.var 18))
 (.bind (.div (.var 18) (.lit 9223372036854775808))
 (.bind (.wrap .u64 (.sub (.wrap .u64 (.sub (.var 3) (.var 9))) (.var 20)))
 (.bind (.wrap .u32 (.var 21))
 (.bind (.div (.var 21) (.lit 9223372036854775808))
 (.bind (.wrap .u64 (.sub (.wrap .u64 (.sub (.var 4) (.var 10))) (.var 23)))
 (.bind (.wrap .u32 (.var 24))
 (.bind (.div (.var 24) (.lit 9223372036854775808))
 (.bind (.wrap .u64 (.sub (.wrap .u64 (.sub (.var 5) (.var 11))) (.var 26)))
 (.bind (.wrap .u32 (.var 27))
 (.bind (.div (.var 27) (.lit 9223372036854775808))
 (.fin (.e (.var 13) (.e (.var 16) (.e (.var 19) (.e (.var 22) (.e (.var 25) (.e (.var 28) .nil)))))))))))))))))))))))))
theorem v49 : vcOfI ⟨c49, []⟩ iv49 250 Try.f49 s49 = t49 := by kernel_rfl
set_option linter.unusedVariables false in
def p49 (T : Tab) (I : Nat → List Int → List Int → Prop) (M : Nat → List Int → List Int → Nat) (pre : Nat → List Int → Prop) (post : List Int → Prop) (v0 v1 v2 v3 v4 v5 v6 v7 v8 v9 v10 v11 : Int) : Prop :=
 ∀ v12 : Int, v12 = (IntKind.wrap .u64 (v0 - v6)) →
 ∀ v13 : Int, v13 = (IntKind.wrap .u32 v12) →
 ∀ v14 : Int, v14 = (v12 / 9223372036854775808) →
 ∀ v15 : Int, v15 = (IntKind.wrap .u64 ((IntKind.wrap .u64 (v1 - v7)) - v14)) →
 ∀ v16 : Int, v16 = (IntKind.wrap .u32 v15) →
 ∀ v17 : Int, v17 = (v15 / 9223372036854775808) →
 ∀ v18 : Int, v18 = (IntKind.wrap .u64 ((IntKind.wrap .u64 (v2 - v8)) - v17)) →
 ∀ v19 : Int, v19 = (IntKind.wrap .u32 v18) →
 ∀ v20 : Int, v20 = (v18 / 9223372036854775808) →
 ∀ v21 : Int, v21 = (IntKind.wrap .u64 ((IntKind.wrap .u64 (v3 - v9)) - v20)) →
 ∀ v22 : Int, v22 = (IntKind.wrap .u32 v21) →
 ∀ v23 : Int, v23 = (v21 / 9223372036854775808) →
 ∀ v24 : Int, v24 = (IntKind.wrap .u64 ((IntKind.wrap .u64 (v4 - v10)) - v23)) →
 ∀ v25 : Int, v25 = (IntKind.wrap .u32 v24) →
 ∀ v26 : Int, v26 = (v24 / 9223372036854775808) →
 ∀ v27 : Int, v27 = (IntKind.wrap .u64 ((IntKind.wrap .u64 (v5 - v11)) - v26)) →
 ∀ v28 : Int, v28 = (IntKind.wrap .u32 v27) →
 ∀ v29 : Int, v29 = (v27 / 9223372036854775808) →
 post [v13, v16, v19, v22, v25, v28]
theorem q49 (T : Tab) (I : Nat → List Int → List Int → Prop) (M : Nat → List Int → List Int → Nat) (pre : Nat → List Int → Prop) (post : List Int → Prop) (v0 v1 v2 v3 v4 v5 v6 v7 v8 v9 v10 v11 : Int) : t49.plain T (presL pre I M) post ⟨[v0, v1, v2, v3, v4, v5, v6, v7, v8, v9, v10, v11], []⟩ = p49 T I M pre post v0 v1 v2 v3 v4 v5 v6 v7 v8 v9 v10 v11 := by kernel_rfl
theorem k49 (T : Tab) (I : Nat → List Int → List Int → Prop) (M : Nat → List Int → List Int → Nat) (pre : Nat → List Int → Prop) (hs : SubSig T c49.sigs) (ht : Tot pre c49.sigs) (hg : T.sig 49 = some s49) (hC : CtAll Try.prog T.fns (pres pre) c49.sigs)
    (h : ∀ (v0 v1 v2 v3 v4 v5 v6 v7 v8 v9 v10 v11 : Int), (0 ≤ v0 ∧ v0 ≤ 4294967295) → (0 ≤ v1 ∧ v1 ≤ 4294967295) → (0 ≤ v2 ∧ v2 ≤ 4294967295) → (0 ≤ v3 ∧ v3 ≤ 4294967295) → (0 ≤ v4 ∧ v4 ≤ 4294967295) → (0 ≤ v5 ∧ v5 ≤ 4294967295) → (0 ≤ v6 ∧ v6 ≤ 4294967295) → (0 ≤ v7 ∧ v7 ≤ 4294967295) → (0 ≤ v8 ∧ v8 ≤ 4294967295) → (0 ≤ v9 ∧ v9 ≤ 4294967295) → (0 ≤ v10 ∧ v10 ≤ 4294967295) → (0 ≤ v11 ∧ v11 ≤ 4294967295) → pre 49 [v0, v1, v2, v3, v4, v5, v6, v7, v8, v9, v10, v11] → p49 T I M pre (fun ys => ys = T.fn 49 [v0, v1, v2, v3, v4, v5, v6, v7, v8, v9, v10, v11]) v0 v1 v2 v3 v4 v5 v6 v7 v8 v9 v10 v11) : CT Try.prog T.fns (pres pre) 49 s49 :=
  T.ctq (F := ⟨c49, []⟩) (fuel := 250) v49 Try.checked.mixed hs ht hg hC Try.func49 I M (fun _ h _ => h) fun xs hx hp => by
    match xs, hx, hp with
    | [v0, v1, v2, v3, v4, v5, v6, v7, v8, v9, v10, v11], hx, hp => rw [q49]; exact h v0 v1 v2 v3 v4 v5 v6 v7 v8 v9 v10 v11 hx.1 hx.2.1 hx.2.2.1 hx.2.2.2.1 hx.2.2.2.2.1 hx.2.2.2.2.2.1 hx.2.2.2.2.2.2.1 hx.2.2.2.2.2.2.2.1 hx.2.2.2.2.2.2.2.2.1 hx.2.2.2.2.2.2.2.2.2.1 hx.2.2.2.2.2.2.2.2.2.2.1 hx.2.2.2.2.2.2.2.2.2.2.2.1 hp

/-- (loop.example/g01242/impl.limbs).next -/
noncomputable def c51 : Cfg := ⟨Try.prog, [(71, s71)]⟩
def iv51 : List Iv := [⟨0, 4294967295⟩, ⟨0, 4294967295⟩, ⟨0, 4294967295⟩, ⟨0, 4294967295⟩, ⟨0, 4294967295⟩, ⟨0, 4294967295⟩]
def t51 : VC :=
 (.call 71 (.e (.var 0) (.e (.var 1) (.e (.var 2) (.e (.var 3) (.e (.var 4) (.e (.var 5) (.e (.lit 1) (.e (.lit 0) (.e (.lit 0) (.e (.lit 0) (.e (.lit 0) (.e (.lit 0) .nil)))))))))))) 7
 (.fin (.e (.var 6) (.e (.var 7) (.e (.var 8) (.e (.var 9) (.e (.var 10) (.e (.var 11) .nil))))))))
theorem v51 : vcOfI ⟨c51, []⟩ iv51 250 Try.f51 s51 = t51 := by kernel_rfl
set_option linter.unusedVariables false in
def p51 (T : Tab) (I : Nat → List Int → List Int → Prop) (M : Nat → List Int → List Int → Nat) (pre : Nat → List Int → Prop) (post : List Int → Prop) (v0 v1 v2 v3 v4 v5 : Int) : Prop :=
 ∀ v6 v7 v8 v9 v10 v11 v12 : Int, [v6, v7, v8, v9, v10, v11, v12] = T.out 71 7 [v0, v1, v2, v3, v4, v5, 1, 0, 0, 0, 0, 0] →
 post [v6, v7, v8, v9, v10, v11]
theorem q51 (T : Tab) (I : Nat → List Int → List Int → Prop) (M : Nat → List Int → List Int → Nat) (pre : Nat → List Int → Prop) (post : List Int → Prop) (v0 v1 v2 v3 v4 v5 : Int) : t51.plain T (presL pre I M) post ⟨[v0, v1, v2, v3, v4, v5], []⟩ = p51 T I M pre post v0 v1 v2 v3 v4 v5 := by kernel_rfl
theorem k51 (T : Tab) (I : Nat → List Int → List Int → Prop) (M : Nat → List Int → List Int → Nat) (pre : Nat → List Int → Prop) (hs : SubSig T c51.sigs) (ht : Tot pre c51.sigs) (hg : T.sig 51 = some s51) (hC : CtAll Try.prog T.fns (pres pre) c51.sigs)
    (h : ∀ (v0 v1 v2 v3 v4 v5 : Int), (0 ≤ v0 ∧ v0 ≤ 4294967295) → (0 ≤ v1 ∧ v1 ≤ 4294967295) → (0 ≤ v2 ∧ v2 ≤ 4294967295) → (0 ≤ v3 ∧ v3 ≤ 4294967295) → (0 ≤ v4 ∧ v4 ≤ 4294967295) → (0 ≤ v5 ∧ v5 ≤ 4294967295) → pre 51 [v0, v1, v2, v3, v4, v5] → p51 T I M pre (fun ys => ys = T.fn 51 [v0, v1, v2, v3, v4, v5]) v0 v1 v2 v3 v4 v5) : CT Try.prog T.fns (pres pre) 51 s51 :=
  T.ctq (F := ⟨c51, []⟩) (fuel := 250) v51 Try.checked.mixed hs ht hg hC Try.func51 I M (fun _ h _ => h) fun xs hx hp => by
    match xs, hx, hp with
    | [v0, v1, v2, v3, v4, v5], hx, hp => rw [q51]; exact h v0 v1 v2 v3 v4 v5 hx.1 hx.2.1 hx.2.2.1 hx.2.2.2.1 hx.2.2.2.2.1 hx.2.2.2.2.2.1 hp

/-- (loop.example/g01242/impl.limbs).used -/
noncomputable def c72 : Cfg := ⟨Try.prog, []⟩
def iv72 : List Iv := [⟨0, 4294967295⟩, ⟨0, 4294967295⟩, ⟨0, 4294967295⟩, ⟨0, 4294967295⟩, ⟨0, 4294967295⟩, ⟨0, 4294967295⟩]
def t72 : VC :=
 (.ite (.eq (.var 5) (.lit 0))
  (.ite (.eq (.var 4) (.lit 0))
   (.ite (.eq (.var 3) (.lit 0))
    (.ite (.eq (.var 2) (.lit 0))
     (.ite (.eq (.var 1) (.lit 0))
      (.ite (.eq (.var 0) (.lit 0))
       (.fin (.e (.lit 0) .nil))
       (.fin (.e (.lit 1) .nil)))
      (.fin (.e (.lit 2) .nil)))
     (.fin (.e (.lit 3) .nil)))
    (.fin (.e (.lit 4) .nil)))
   (.fin (.e (.lit 5) .nil)))
  (.fin (.e (.lit 6) .nil)))
theorem v72 : vcOfI ⟨c72, []⟩ iv72 250 Try.f72 s72 = t72 := by kernel_rfl
set_option linter.unusedVariables false in
def p72 (T : Tab) (I : Nat → List Int → List Int → Prop) (M : Nat → List Int → List Int → Nat) (pre : Nat → List Int → Prop) (post : List Int → Prop) (v0 v1 v2 v3 v4 v5 : Int) : Prop :=
 ((decide ((v5 : Int) = 0) = true →
  ((decide ((v4 : Int) = 0) = true →
   ((decide ((v3 : Int) = 0) = true →
    ((decide ((v2 : Int) = 0) = true →
     ((decide ((v1 : Int) = 0) = true →
      ((decide ((v0 : Int) = 0) = true →
       post [0]) ∧ (decide ((v0 : Int) = 0) = false →
       post [1]))) ∧ (decide ((v1 : Int) = 0) = false →
      post [2]))) ∧ (decide ((v2 : Int) = 0) = false →
     post [3]))) ∧ (decide ((v3 : Int) = 0) = false →
    post [4]))) ∧ (decide ((v4 : Int) = 0) = false →
   post [5]))) ∧ (decide ((v5 : Int) = 0) = false →
  post [6]))
theorem q72 (T : Tab) (I : Nat → List Int → List Int → Prop) (M : Nat → List Int → List Int → Nat) (pre : Nat → List Int → Prop) (post : List Int → Prop) (v0 v1 v2 v3 v4 v5 : Int) : t72.plain T (presL pre I M) post ⟨[v0, v1, v2, v3, v4, v5], []⟩ = p72 T I M pre post v0 v1 v2 v3 v4 v5 := by kernel_rfl
theorem k72 (T : Tab) (I : Nat → List Int → List Int → Prop) (M : Nat → List Int → List Int → Nat) (pre : Nat → List Int → Prop) (hs : SubSig T c72.sigs) (ht : Tot pre c72.sigs) (hg : T.sig 72 = some s72) (hC : CtAll Try.prog T.fns (pres pre) c72.sigs)
    (h : ∀ (v0 v1 v2 v3 v4 v5 : Int), (0 ≤ v0 ∧ v0 ≤ 4294967295) → (0 ≤ v1 ∧ v1 ≤ 4294967295) → (0 ≤ v2 ∧ v2 ≤ 4294967295) → (0 ≤ v3 ∧ v3 ≤ 4294967295) → (0 ≤ v4 ∧ v4 ≤ 4294967295) → (0 ≤ v5 ∧ v5 ≤ 4294967295) → pre 72 [v0, v1, v2, v3, v4, v5] → p72 T I M pre (fun ys => ys = T.fn 72 [v0, v1, v2, v3, v4, v5]) v0 v1 v2 v3 v4 v5) : CT Try.prog T.fns (pres pre) 72 s72 :=
  T.ctq (F := ⟨c72, []⟩) (fuel := 250) v72 Try.checked.mixed hs ht hg hC Try.func72 I M (fun _ h _ => h) fun xs hx hp => by
    match xs, hx, hp with
    | [v0, v1, v2, v3, v4, v5], hx, hp => rw [q72]; exact h v0 v1 v2 v3 v4 v5 hx.1 hx.2.1 hx.2.2.1 hx.2.2.2.1 hx.2.2.2.2.1 hx.2.2.2.2.2.1 hp

/-- (loop.example/g01242/impl.limbs).bitCount -/
noncomputable def c45 : Cfg := ⟨Try.prog, [(72, s72), (75, s75)]⟩
def iv45 : List Iv := [⟨0, 4294967295⟩, ⟨0, 4294967295⟩, ⟨0, 4294967295⟩, ⟨0, 4294967295⟩, ⟨0, 4294967295⟩, ⟨0, 4294967295⟩]
def t45 : VC :=
 (.call 72 (.e (.var 0) (.e (.var 1) (.e (.var 2) (.e (.var 3) (.e (.var 4) (.e (.var 5) .nil)))))) 1
 (.ite (.eq (.var 6) (.lit 0))
  (.fin (.e (.lit 0) .nil))
  (.bind (.ite (.eq (.sub (.var 6) (.lit 1)) (.lit 0)) (.var 0) (.ite (.eq (.sub (.var 6) (.lit 1)) (.lit 1)) (.var 1) (.ite (.eq (.sub (.var 6) (.lit 1)) (.lit 2)) (.var 2) (.ite (.eq (.sub (.var 6) (.lit 1)) (.lit 3)) (.var 3) (.ite (.eq (.sub (.var 6) (.lit 1)) (.lit 4)) (.var 4) (.var 5))))))
  (.call 75 (.e (.var 7) .nil) 1
  (.bind (.add (.mul (.sub (.var 6) (.lit 1)) (.lit 32)) (.var 8))
  (.fin (.e (.var 9) .nil)))))))
theorem v45 : vcOfI ⟨c45, []⟩ iv45 250 Try.f45 s45 = t45 := by kernel_rfl
set_option linter.unusedVariables false in
def p45 (T : Tab) (I : Nat → List Int → List Int → Prop) (M : Nat → List Int → List Int → Nat) (pre : Nat → List Int → Prop) (post : List Int → Prop) (v0 v1 v2 v3 v4 v5 : Int) : Prop :=
 ∀ v6 : Int, [v6] = T.out 72 1 [v0, v1, v2, v3, v4, v5] →
 ((decide ((v6 : Int) = 0) = true →
  post [0]) ∧ (decide ((v6 : Int) = 0) = false →
  ∀ v7 : Int, v7 = (if decide (((v6 - 1) : Int) = 0) = true then v0 else (if decide (((v6 - 1) : Int) = 1) = true then v1 else (if decide (((v6 - 1) : Int) = 2) = true then v2 else (if decide (((v6 - 1) : Int) = 3) = true then v3 else (if decide (((v6 - 1) : Int) = 4) = true then v4 else v5))))) →
  ∀ v8 : Int, [v8] = T.out 75 1 [v7] →
  ∀ v9 : Int, v9 = (((v6 - 1) * 32) + v8) →
  post [v9]))
theorem q45 (T : Tab) (I : Nat → List Int → List Int → Prop) (M : Nat → List Int → List Int → Nat) (pre : Nat → List Int → Prop) (post : List Int → Prop) (v0 v1 v2 v3 v4 v5 : Int) : t45.plain T (presL pre I M) post ⟨[v0, v1, v2, v3, v4, v5], []⟩ = p45 T I M pre post v0 v1 v2 v3 v4 v5 := by kernel_rfl
theorem k45 (T : Tab) (I : Nat → List Int → List Int → Prop) (M : Nat → List Int → List Int → Nat) (pre : Nat → List Int → Prop) (hs : SubSig T c45.sigs) (ht : Tot pre c45.sigs) (hg : T.sig 45 = some s45) (hC : CtAll Try.prog T.fns (pres pre) c45.sigs)
    (h : ∀ (v0 v1 v2 v3 v4 v5 : Int), (0 ≤ v0 ∧ v0 ≤ 4294967295) → (0 ≤ v1 ∧ v1 ≤ 4294967295) → (0 ≤ v2 ∧ v2 ≤ 4294967295) → (0 ≤ v3 ∧ v3 ≤ 4294967295) → (0 ≤ v4 ∧ v4 ≤ 4294967295) → (0 ≤ v5 ∧ v5 ≤ 4294967295) → pre 45 [v0, v1, v2, v3, v4, v5] → p45 T I M pre (fun ys => ys = T.fn 45 [v0, v1, v2, v3, v4, v5]) v0 v1 v2 v3 v4 v5) : CT Try.prog T.fns (pres pre) 45 s45 :=
  T.ctq (F := ⟨c45, []⟩) (fuel := 250) v45 Try.checked.mixed hs ht hg hC Try.func45 I M (fun _ h _ => h) fun xs hx hp => by
    match xs, hx, hp with
    | [v0, v1, v2, v3, v4, v5], hx, hp => rw [q45]; exact h v0 v1 v2 v3 v4 v5 hx.1 hx.2.1 hx.2.2.1 hx.2.2.2.1 hx.2.2.2.2.1 hx.2.2.2.2.2.1 hp

/-- math/bits.Len32 -/
noncomputable def c75 : Cfg := ⟨Try.prog, []⟩
def iv75 : List Iv := [⟨0, 4294967295⟩]
def t75 : VC :=
 (.ite (.le (.lit 65536) (.var 0))
  (.bind (.div (.var 0) (.lit 65536))
  (.ite (.le (.lit 256) (.var 1))
   (.bind (.div (.var 1) (.lit 256))
   (.need [(.b (.lt (.var 2) (.len (.lit [0, 1, 2, 2, 3, 3, 3, 3, 4, 4, 4, 4, 4, 4, 4, 4, 5, 5, 5, 5, 5, 5, 5, 5, 5, 5, 5, 5, 5, 5, 5, 5, 6, 6, 6, 6, 6, 6, 6, 6, 6, 6, 6, 6, 6, 6, 6, 6, 6, 6, 6, 6, 6, 6, 6, 6, 6, 6, 6, 6, 6, 6, 6, 6, 7, 7, 7, 7, 7, 7, 7, 7, 7, 7, 7, 7, 7, 7, 7, 7, 7, 7, 7, 7, 7, 7, 7, 7, 7, 7, 7, 7, 7, 7, 7, 7, 7, 7, 7, 7, 7, 7, 7, 7, 7, 7, 7, 7, 7, 7, 7, 7, 7, 7, 7, 7, 7, 7, 7, 7, 7, 7, 7, 7, 7, 7, 7, 7, 8, 8, 8, 8, 8, 8, 8, 8, 8, 8, 8, 8, 8, 8, 8, 8, 8, 8, 8, 8, 8, 8, 8, 8, 8, 8, 8, 8, 8, 8, 8, 8, 8, 8, 8, 8, 8, 8, 8, 8, 8, 8, 8, 8, 8, 8, 8, 8, 8, 8, 8, 8, 8, 8, 8, 8, 8, 8, 8, 8, 8, 8, 8, 8, 8, 8, 8, 8, 8, 8, 8, 8, 8, 8, 8, 8, 8, 8, 8, 8, 8, 8, 8, 8, 8, 8, 8, 8, 8, 8, 8, 8, 8, 8, 8, 8, 8, 8, 8, 8, 8, 8, 8, 8, 8, 8, 8, 8, 8, 8, 8, 8, 8, 8, 8, 8, 8, 8, 8, 8, 8, 8, 8, 8, 8, 8, 8, 8]))))]
   (.bind (.add (.lit 24) (.at (.lit [0, 1, 2, 2, 3, 3, 3, 3, 4, 4, 4, 4, 4, 4, 4, 4, 5, 5, 5, 5, 5, 5, 5, 5, 5, 5, 5, 5, 5, 5, 5, 5, 6, 6, 6, 6, 6, 6, 6, 6, 6, 6, 6, 6, 6, 6, 6, 6, 6, 6, 6, 6, 6, 6, 6, 6, 6, 6, 6, 6, 6, 6, 6, 6, 7, 7, 7, 7, 7, 7, 7, 7, 7, 7, 7, 7, 7, 7, 7, 7, 7, 7, 7, 7, 7, 7, 7, 7, 7, 7, 7, 7, 7, 7, 7, 7, 7, 7, 7, 7, 7, 7, 7, 7, 7, 7, 7, 7, 7, 7, 7, 7, 7, 7, 7, 7, 7, 7, 7, 7, 7, 7, 7, 7, 7, 7, 7, 7, 8, 8, 8, 8, 8, 8, 8, 8, 8, 8, 8, 8, 8, 8, 8, 8, 8, 8, 8, 8, 8, 8, 8, 8, 8, 8, 8, 8, 8, 8, 8, 8, 8, 8, 8, 8, 8, 8, 8, 8, 8, 8, 8, 8, 8, 8, 8, 8, 8, 8, 8, 8, 8, 8, 8, 8, 8, 8, 8, 8, 8, 8, 8, 8, 8, 8, 8, 8, 8, 8, 8, 8, 8, 8, 8, 8, 8, 8, 8, 8, 8, 8, 8, 8, 8, 8, 8, 8, 8, 8, 8, 8, 8, 8, 8, 8, 8, 8, 8, 8, 8, 8, 8, 8, 8, 8, 8, 8, 8, 8, 8, 8, 8, 8, 8, 8, 8, 8, 8, 8, 8, 8, 8, 8, 8, 8, 8, 8]) (.var 2)))
   (.fin (.e (.var 3) .nil)))))
   (.need [(.b (.lt (.var 1) (.len (.lit [0, 1, 2, 2, 3, 3, 3, 3, 4, 4, 4, 4, 4, 4, 4, 4, 5, 5, 5, 5, 5, 5, 5, 5, 5, 5, 5, 5, 5, 5, 5, 5, 6, 6, 6, 6, 6, 6, 6, 6, 6, 6, 6, 6, 6, 6, 6, 6, 6, 6, 6, 6, 6, 6, 6, 6, 6, 6, 6, 6, 6, 6, 6, 6, 7, 7, 7, 7, 7, 7, 7, 7, 7, 7, 7, 7, 7, 7, 7, 7, 7, 7, 7, 7, 7, 7, 7, 7, 7, 7, 7, 7, 7, 7, 7, 7, 7, 7, 7, 7, 7, 7, 7, 7, 7, 7, 7, 7, 7, 7, 7, 7, 7, 7, 7, 7, 7, 7, 7, 7, 7, 7, 7, 7, 7, 7, 7, 7, 8, 8, 8, 8, 8, 8, 8, 8, 8, 8, 8, 8, 8, 8, 8, 8, 8, 8, 8, 8, 8, 8, 8, 8, 8, 8, 8, 8, 8, 8, 8, 8, 8, 8, 8, 8, 8, 8, 8, 8, 8, 8, 8, 8, 8, 8, 8, 8, 8, 8, 8, 8, 8, 8, 8, 8, 8, 8, 8, 8, 8, 8, 8, 8, 8, 8, 8, 8, 8, 8, 8, 8, 8, 8, 8, 8, 8, 8, 8, 8, 8, 8, 8, 8, 8, 8, 8, 8, 8, 8, 8, 8, 8, 8, 8, 8, 8, 8, 8, 8, 8, 8, 8, 8, 8, 8, 8, 8, 8, 8, 8, 8, 8, 8, 8, 8, 8, 8, 8, 8, 8, 8, 8, 8, 8, 8, 8, 8]))))]
   (.bind (.add (.lit 16) (.at (.lit [0, 1, 2, 2, 3, 3, 3, 3, 4, 4, 4, 4, 4, 4, 4, 4, 5, 5, 5, 5, 5, 5, 5, 5, 5, 5, 5, 5, 5, 5, 5, 5, 6, 6, 6, 6, 6, 6, 6, 6, 6, 6, 6, 6, 6, 6, 6, 6, 6, 6, 6, 6, 6, 6, 6, 6, 6, 6, 6, 6, 6, 6, 6, 6, 7, 7, 7, 7, 7, 7, 7, 7, 7, 7, 7, 7, 7, 7, 7, 7, 7, 7, 7, 7, 7, 7, 7, 7, 7, 7, 7, 7, 7, 7, 7, 7, 7, 7, 7, 7, 7, 7, 7, 7, 7, 7, 7, 7, 7, 7, 7, 7, 7, 7, 7, 7, 7, 7, 7, 7, 7, 7, 7, 7, 7, 7, 7, 7, 8, 8, 8, 8, 8, 8, 8, 8, 8, 8, 8, 8, 8, 8, 8, 8, 8, 8, 8, 8, 8, 8, 8, 8, 8, 8, 8, 8, 8, 8, 8, 8, 8, 8, 8, 8, 8, 8, 8, 8, 8, 8, 8, 8, 8, 8, 8, 8, 8, 8, 8, 8, 8, 8, 8, 8, 8, 8, 8, 8, 8, 8, 8, 8, 8, 8, 8, 8, 8, 8, 8, 8, 8, 8, 8, 8, 8, 8, 8, 8, 8, 8, 8, 8, 8, 8, 8, 8, 8, 8, 8, 8, 8, 8, 8, 8, 8, 8, 8, 8, 8, 8, 8, 8, 8, 8, 8, 8, 8, 8, 8, 8, 8, 8, 8, 8, 8, 8, 8, 8, 8, 8, 8, 8, 8, 8, 8, 8]) (.var 1)))
   (.fin (.e (.var 2) .nil))))))
  (.ite (.le (.lit 256) (.var 0))
   (.bind (.div (.var 0) (.lit 256))
   (.need [(.b (.lt (.var 1) (.len (.lit [0, 1, 2, 2, 3, 3, 3, 3, 4, 4, 4, 4, 4, 4, 4, 4, 5, 5, 5, 5, 5, 5, 5, 5, 5, 5, 5, 5, 5, 5, 5, 5, 6, 6, 6, 6, 6, 6, 6, 6, 6, 6, 6, 6, 6, 6, 6, 6, 6, 6, 6, 6, 6, 6, 6, 6, 6, 6, 6, 6, 6, 6, 6, 6, 7, 7, 7, 7, 7, 7, 7, 7, 7, 7, 7, 7, 7, 7, 7, 7, 7, 7, 7, 7, 7, 7, 7, 7, 7, 7, 7, 7, 7, 7, 7, 7, 7, 7, 7, 7, 7, 7, 7, 7, 7, 7, 7, 7, 7, 7, 7, 7, 7, 7, 7, 7, 7, 7, 7, 7, 7, 7, 7, 7, 7, 7, 7, 7, 8, 8, 8, 8, 8, 8, 8, 8, 8, 8, 8, 8, 8, 8, 8, 8, 8, 8, 8, 8, 8, 8, 8, 8, 8, 8, 8, 8, 8, 8, 8, 8, 8, 8, 8, 8, 8, 8, 8, 8, 8, 8, 8, 8, 8, 8, 8, 8, 8, 8, 8, 8, 8, 8, 8, 8, 8, 8, 8, 8, 8, 8, 8, 8, 8, 8, 8, 8, 8, 8, 8, 8, 8, 8, 8, 8, 8, 8, 8, 8, 8, 8, 8, 8, 8, 8, 8, 8, 8, 8, 8, 8, 8, 8, 8, 8, 8, 8, 8, 8, 8, 8, 8, 8, 8, 8, 8, 8, 8, 8, 8, 8, 8, 8, 8, 8, 8, 8, 8, 8, 8, 8, 8, 8, 8, 8, 8, 8]))))]
   (.bind (.add (.lit 8) (.at (.lit [0, 1, 2, 2, 3, 3, 3, 3, 4, 4, 4, 4, 4, 4, 4, 4, 5, 5, 5, 5, 5, 5, 5, 5, 5, 5, 5, 5, 5, 5, 5, 5, 6, 6, 6, 6, 6, 6, 6, 6, 6, 6, 6, 6, 6, 6, 6, 6, 6, 6, 6, 6, 6, 6, 6, 6, 6, 6, 6, 6, 6, 6, 6, 6, 7, 7, 7, 7, 7, 7, 7, 7, 7, 7, 7, 7, 7, 7, 7, 7, 7, 7, 7, 7, 7, 7, 7, 7, 7, 7, 7, 7, 7, 7, 7, 7, 7, 7, 7, 7, 7, 7, 7, 7, 7, 7, 7, 7, 7, 7, 7, 7, 7, 7, 7, 7, 7, 7, 7, 7, 7, 7, 7, 7, 7, 7, 7, 7, 8, 8, 8, 8, 8, 8, 8, 8, 8, 8, 8, 8, 8, 8, 8, 8, 8, 8, 8, 8, 8, 8, 8, 8, 8, 8, 8, 8, 8, 8, 8, 8, 8, 8, 8, 8, 8, 8, 8, 8, 8, 8, 8, 8, 8, 8, 8, 8, 8, 8, 8, 8, 8, 8, 8, 8, 8, 8, 8, 8, 8, 8, 8, 8, 8, 8, 8, 8, 8, 8, 8, 8, 8, 8, 8, 8, 8, 8, 8, 8, 8, 8, 8, 8, 8, 8, 8, 8, 8, 8, 8, 8, 8, 8, 8, 8, 8, 8, 8, 8, 8, 8, 8, 8, 8, 8, 8, 8, 8, 8, 8, 8, 8, 8, 8, 8, 8, 8, 8, 8, 8, 8, 8, 8, 8, 8, 8, 8]) (.var 1)))
   (.fin (.e (.var 2) .nil)))))
   (.need [(.b (.lt (.var 0) (.len (.lit [0, 1, 2, 2, 3, 3, 3, 3, 4, 4, 4, 4, 4, 4, 4, 4, 5, 5, 5, 5, 5, 5, 5, 5, 5, 5, 5, 5, 5, 5, 5, 5, 6, 6, 6, 6, 6, 6, 6, 6, 6, 6, 6, 6, 6, 6, 6, 6, 6, 6, 6, 6, 6, 6, 6, 6, 6, 6, 6, 6, 6, 6, 6, 6, 7, 7, 7, 7, 7, 7, 7, 7, 7, 7, 7, 7, 7, 7, 7, 7, 7, 7, 7, 7, 7, 7, 7, 7, 7, 7, 7, 7, 7, 7, 7, 7, 7, 7, 7, 7, 7, 7, 7, 7, 7, 7, 7, 7, 7, 7, 7, 7, 7, 7, 7, 7, 7, 7, 7, 7, 7, 7, 7, 7, 7, 7, 7, 7, 8, 8, 8, 8, 8, 8, 8, 8, 8, 8, 8, 8, 8, 8, 8, 8, 8, 8, 8, 8, 8, 8, 8, 8, 8, 8, 8, 8, 8, 8, 8, 8, 8, 8, 8, 8, 8, 8, 8, 8, 8, 8, 8, 8, 8, 8, 8, 8, 8, 8, 8, 8, 8, 8, 8, 8, 8, 8, 8, 8, 8, 8, 8, 8, 8, 8, 8, 8, 8, 8, 8, 8, 8, 8, 8, 8, 8, 8, 8, 8, 8, 8, 8, 8, 8, 8, 8, 8, 8, 8, 8, 8, 8, 8, 8, 8, 8, 8, 8, 8, 8, 8, 8, 8, 8, 8, 8, 8, 8, 8, 8, 8, 8, 8, 8, 8, 8, 8, 8, 8, 8, 8, 8, 8, 8, 8, 8, 8]))))]
   (.bind (.add (.lit 0) (.at (.lit [0, 1, 2, 2, 3, 3, 3, 3, 4, 4, 4, 4, 4, 4, 4, 4, 5, 5, 5, 5, 5, 5, 5, 5, 5, 5, 5, 5, 5, 5, 5, 5, 6, 6, 6, 6, 6, 6, 6, 6, 6, 6, 6, 6, 6, 6, 6, 6, 6, 6, 6, 6, 6, 6, 6, 6, 6, 6, 6, 6, 6, 6, 6, 6, 7, 7, 7, 7, 7, 7, 7, 7, 7, 7, 7, 7, 7, 7, 7, 7, 7, 7, 7, 7, 7, 7, 7, 7, 7, 7, 7, 7, 7, 7, 7, 7, 7, 7, 7, 7, 7, 7, 7, 7, 7, 7, 7, 7, 7, 7, 7, 7, 7, 7, 7, 7, 7, 7, 7, 7, 7, 7, 7, 7, 7, 7, 7, 7, 8, 8, 8, 8, 8, 8, 8, 8, 8, 8, 8, 8, 8, 8, 8, 8, 8, 8, 8, 8, 8, 8, 8, 8, 8, 8, 8, 8, 8, 8, 8, 8, 8, 8, 8, 8, 8, 8, 8, 8, 8, 8, 8, 8, 8, 8, 8, 8, 8, 8, 8, 8, 8, 8, 8, 8, 8, 8, 8, 8, 8, 8, 8, 8, 8, 8, 8, 8, 8, 8, 8, 8, 8, 8, 8, 8, 8, 8, 8, 8, 8, 8, 8, 8, 8, 8, 8, 8, 8, 8, 8, 8, 8, 8, 8, 8, 8, 8, 8, 8, 8, 8, 8, 8, 8, 8, 8, 8, 8, 8, 8, 8, 8, 8, 8, 8, 8, 8, 8, 8, 8, 8, 8, 8, 8, 8, 8, 8]) (.var 0)))
   (.fin (.e (.var 1) .nil))))))
theorem v75 : vcOfI ⟨c75, []⟩ iv75 250 Try.f75 s75 = t75 := by kernel_rfl
def z75_0 : List Int := [0, 1, 2, 2, 3, 3, 3, 3, 4, 4, 4, 4, 4, 4, 4, 4, 5, 5, 5, 5, 5, 5, 5, 5, 5, 5, 5, 5, 5, 5, 5, 5, 6, 6, 6, 6, 6, 6, 6, 6, 6, 6, 6, 6, 6, 6, 6, 6, 6, 6, 6, 6, 6, 6, 6, 6, 6, 6, 6, 6, 6, 6, 6, 6, 7, 7, 7, 7, 7, 7, 7, 7, 7, 7, 7, 7, 7, 7, 7, 7, 7, 7, 7, 7, 7, 7, 7, 7, 7, 7, 7, 7, 7, 7, 7, 7, 7, 7, 7, 7, 7, 7, 7, 7, 7, 7, 7, 7, 7, 7, 7, 7, 7, 7, 7, 7, 7, 7, 7, 7, 7, 7, 7, 7, 7, 7, 7, 7, 8, 8, 8, 8, 8, 8, 8, 8, 8, 8, 8, 8, 8, 8, 8, 8, 8, 8, 8, 8, 8, 8, 8, 8, 8, 8, 8, 8, 8, 8, 8, 8, 8, 8, 8, 8, 8, 8, 8, 8, 8, 8, 8, 8, 8, 8, 8, 8, 8, 8, 8, 8, 8, 8, 8, 8, 8, 8, 8, 8, 8, 8, 8, 8, 8, 8, 8, 8, 8, 8, 8, 8, 8, 8, 8, 8, 8, 8, 8, 8, 8, 8, 8, 8, 8, 8, 8, 8, 8, 8, 8, 8, 8, 8, 8, 8, 8, 8, 8, 8, 8, 8, 8, 8, 8, 8, 8, 8, 8, 8, 8, 8, 8, 8, 8, 8, 8, 8, 8, 8, 8, 8, 8, 8, 8, 8, 8, 8]
set_option linter.unusedVariables false in
def p75 (T : Tab) (I : Nat → List Int → List Int → Prop) (M : Nat → List Int → List Int → Nat) (pre : Nat → List Int → Prop) (post : List Int → Prop) (v0 : Int) : Prop :=
 ((decide ((65536 : Int) ≤ v0) = true →
  ∀ v1 : Int, v1 = (v0 / 65536) →
  ((decide ((256 : Int) ≤ v1) = true →
   ∀ v2 : Int, v2 = (v1 / 256) →
   ((decide ((v2 : Int) < (List.length z75_0 : Int)) = true) ∧ ((decide ((v2 : Int) < (List.length z75_0 : Int)) = true) →
   ∀ v3 : Int, v3 = (24 + (List.getD z75_0 (Int.toNat v2) 0)) →
   post [v3]))) ∧ (decide ((256 : Int) ≤ v1) = false →
   ((decide ((v1 : Int) < (List.length z75_0 : Int)) = true) ∧ ((decide ((v1 : Int) < (List.length z75_0 : Int)) = true) →
   ∀ v2 : Int, v2 = (16 + (List.getD z75_0 (Int.toNat v1) 0)) →
   post [v2]))))) ∧ (decide ((65536 : Int) ≤ v0) = false →
  ((decide ((256 : Int) ≤ v0) = true →
   ∀ v1 : Int, v1 = (v0 / 256) →
   ((decide ((v1 : Int) < (List.length z75_0 : Int)) = true) ∧ ((decide ((v1 : Int) < (List.length z75_0 : Int)) = true) →
   ∀ v2 : Int, v2 = (8 + (List.getD z75_0 (Int.toNat v1) 0)) →
   post [v2]))) ∧ (decide ((256 : Int) ≤ v0) = false →
   ((decide ((v0 : Int) < (List.length z75_0 : Int)) = true) ∧ ((decide ((v0 : Int) < (List.length z75_0 : Int)) = true) →
   ∀ v1 : Int, v1 = (0 + (List.getD z75_0 (Int.toNat v0) 0)) →
   post [v1]))))))
theorem q75 (T : Tab) (I : Nat → List Int → List Int → Prop) (M : Nat → List Int → List Int → Nat) (pre : Nat → List Int → Prop) (post : List Int → Prop) (v0 : Int) : t75.plain T (presL pre I M) post ⟨[v0], []⟩ = p75 T I M pre post v0 := by kernel_rfl
theorem k75 (T : Tab) (I : Nat → List Int → List Int → Prop) (M : Nat → List Int → List Int → Nat) (pre : Nat → List Int → Prop) (hs : SubSig T c75.sigs) (ht : Tot pre c75.sigs) (hg : T.sig 75 = some s75) (hC : CtAll Try.prog T.fns (pres pre) c75.sigs)
    (h : ∀ (v0 : Int), (0 ≤ v0 ∧ v0 ≤ 4294967295) → pre 75 [v0] → p75 T I M pre (fun ys => ys = T.fn 75 [v0]) v0) : CT Try.prog T.fns (pres pre) 75 s75 :=
  T.ctq (F := ⟨c75, []⟩) (fuel := 250) v75 Try.checked.mixed hs ht hg hC Try.func75 I M (fun _ h _ => h) fun xs hx hp => by
    match xs, hx, hp with
    | [v0], hx, hp => rw [q75]; exact h v0 hx.1 hp

end Go.Proofs.Ytppbanmlifikpab.Sx
