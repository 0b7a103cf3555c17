/-
  What the symbolic executor asks of these functions, written out by a program of mine, and that it asks just this.
-/
import Derived.Test.YtppbanmlifikpaaV3s
import Derived.Test.YtppbanmlifikpaaChecked
import Derived.KernelRfl
namespace Go.Proofs.Ytppbanmlifikpaa.Sx
open Go Go.RowKit
/-- loop.example/g01242/laws.FnExactSizeOf -/
noncomputable def c10 : Cfg := ⟨Try.prog, [(47, s47), (52, s52), (26, s26)]⟩
def iv10 : List Iv := [⟨0, 1⟩, ⟨0, 4294967295⟩, ⟨0, 4294967295⟩, ⟨0, 4294967295⟩, ⟨0, 4294967295⟩, ⟨0, 4294967295⟩, ⟨0, 4294967295⟩]
def t10 : VC :=
 (.call 47 (.e (.var 0) (.e (.var 1) (.e (.var 2) (.e (.var 3) (.e (.var 4) (.e (.var 5) (.e (.var 6) .nil))))))) 7
 (.call 52 (.e (.var 7) (.e (.var 8) (.e (.var 9) (.e (.var 10) (.e (.var 11) (.e (.var 12) (.e (.var 13) .nil))))))) 2
 (.call 47 (.e (.var 0) (.e (.var 1) (.e (.var 2) (.e (.var 3) (.e (.var 4) (.e (.var 5) (.e (.var 6) .nil))))))) 7
 (.call 26 (.e (.var 16) (.e (.var 17) (.e (.var 18) (.e (.var 19) (.e (.var 20) (.e (.var 21) (.e (.var 22) .nil))))))) 2
 (.ite (.eq (.var 23) (.var 14))
  (.ite (.not (.eq (.var 24) (.var 15)))
   (.fin (.e (.lit 0) .nil))
   (.fin (.e (.lit 1) .nil)))
  (.fin (.e (.lit 0) .nil)))))))
theorem v10 : vcOfI ⟨c10, []⟩ iv10 250 Try.f10 s10 = t10 := by kernel_rfl
set_option linter.unusedVariables false in
def p10 (T : Tab) (I : Nat → List Int → List Int → Prop) (M : Nat → List Int → List Int → Nat) (pre : Nat → List Int → Prop) (post : List Int → Prop) (v0 v1 v2 v3 v4 v5 v6 : Int) : Prop :=
 ∀ v7 v8 v9 v10 v11 v12 v13 : Int, [v7, v8, v9, v10, v11, v12, v13] = T.out 47 7 [v0, v1, v2, v3, v4, v5, v6] →
 ∀ v14 v15 : Int, [v14, v15] = T.out 52 2 [v7, v8, v9, v10, v11, v12, v13] →
 ∀ v16 v17 v18 v19 v20 v21 v22 : Int, [v16, v17, v18, v19, v20, v21, v22] = T.out 47 7 [v0, v1, v2, v3, v4, v5, v6] →
 ∀ v23 v24 : Int, [v23, v24] = T.out 26 2 [v16, v17, v18, v19, v20, v21, v22] →
 ((decide ((v23 : Int) = v14) = true →
  (((!decide ((v24 : Int) = v15)) = true →
   post [0]) ∧ ((!decide ((v24 : Int) = v15)) = false →
   post [1]))) ∧ (decide ((v23 : Int) = v14) = false →
  post [0]))
theorem q10 (T : Tab) (I : Nat → List Int → List Int → Prop) (M : Nat → List Int → List Int → Nat) (pre : Nat → List Int → Prop) (post : List Int → Prop) (v0 v1 v2 v3 v4 v5 v6 : Int) : t10.plain T (presL pre I M) post ⟨[v0, v1, v2, v3, v4, v5, v6], []⟩ = p10 T I M pre post v0 v1 v2 v3 v4 v5 v6 := by kernel_rfl
theorem k10 (T : Tab) (I : Nat → List Int → List Int → Prop) (M : Nat → List Int → List Int → Nat) (pre : Nat → List Int → Prop) (hs : SubSig T c10.sigs) (ht : Tot pre c10.sigs) (hg : T.sig 10 = some s10) (hC : CtAll Try.prog T.fns (pres pre) c10.sigs)
    (h : ∀ (v0 v1 v2 v3 v4 v5 v6 : Int), (0 ≤ v0 ∧ v0 ≤ 1) → (0 ≤ v1 ∧ v1 ≤ 4294967295) → (0 ≤ v2 ∧ v2 ≤ 4294967295) → (0 ≤ v3 ∧ v3 ≤ 4294967295) → (0 ≤ v4 ∧ v4 ≤ 4294967295) → (0 ≤ v5 ∧ v5 ≤ 4294967295) → (0 ≤ v6 ∧ v6 ≤ 4294967295) → pre 10 [v0, v1, v2, v3, v4, v5, v6] → p10 T I M pre (fun ys => ys = T.fn 10 [v0, v1, v2, v3, v4, v5, v6]) v0 v1 v2 v3 v4 v5 v6) : CT Try.prog T.fns (pres pre) 10 s10 :=
  T.ctq (F := ⟨c10, []⟩) (fuel := 250) v10 Try.checked.mixed hs ht hg hC Try.func10 I M (fun _ h _ => h) fun xs hx hp => by
    match xs, hx, hp with
    | [v0, v1, v2, v3, v4, v5, v6], hx, hp => rw [q10]; exact h v0 v1 v2 v3 v4 v5 v6 hx.1 hx.2.1 hx.2.2.1 hx.2.2.2.1 hx.2.2.2.2.1 hx.2.2.2.2.2.1 hx.2.2.2.2.2.2.1 hp

/-- loop.example/g01242/laws.FnExactSignOf -/
noncomputable def c9 : Cfg := ⟨Try.prog, [(47, s47), (51, s51), (24, s24)]⟩
def iv9 : List Iv := [⟨0, 1⟩, ⟨0, 4294967295⟩, ⟨0, 4294967295⟩, ⟨0, 4294967295⟩, ⟨0, 4294967295⟩, ⟨0, 4294967295⟩, ⟨0, 4294967295⟩]
def t9 : VC :=
 (.call 47 (.e (.var 0) (.e (.var 1) (.e (.var 2) (.e (.var 3) (.e (.var 4) (.e (.var 5) (.e (.var 6) .nil))))))) 7
 (.call 51 (.e (.var 7) (.e (.var 8) (.e (.var 9) (.e (.var 10) (.e (.var 11) (.e (.var 12) (.e (.var 13) .nil))))))) 2
 (.call 47 (.e (.var 0) (.e (.var 1) (.e (.var 2) (.e (.var 3) (.e (.var 4) (.e (.var 5) (.e (.var 6) .nil))))))) 7
 (.call 24 (.e (.var 16) (.e (.var 17) (.e (.var 18) (.e (.var 19) (.e (.var 20) (.e (.var 21) (.e (.var 22) .nil))))))) 2
 (.ite (.eq (.var 23) (.var 14))
  (.ite (.not (.eq (.var 24) (.var 15)))
   (.fin (.e (.lit 0) .nil))
   (.fin (.e (.lit 1) .nil)))
  (.fin (.e (.lit 0) .nil)))))))
theorem v9 : vcOfI ⟨c9, []⟩ iv9 250 Try.f9 s9 = t9 := by kernel_rfl
set_option linter.unusedVariables false in
def p9 (T : Tab) (I : Nat → List Int → List Int → Prop) (M : Nat → List Int → List Int → Nat) (pre : Nat → List Int → Prop) (post : List Int → Prop) (v0 v1 v2 v3 v4 v5 v6 : Int) : Prop :=
 ∀ v7 v8 v9 v10 v11 v12 v13 : Int, [v7, v8, v9, v10, v11, v12, v13] = T.out 47 7 [v0, v1, v2, v3, v4, v5, v6] →
 ∀ v14 v15 : Int, [v14, v15] = T.out 51 2 [v7, v8, v9, v10, v11, v12, v13] →
 ∀ v16 v17 v18 v19 v20 v21 v22 : Int, [v16, v17, v18, v19, v20, v21, v22] = T.out 47 7 [v0, v1, v2, v3, v4, v5, v6] →
 ∀ v23 v24 : Int, [v23, v24] = T.out 24 2 [v16, v17, v18, v19, v20, v21, v22] →
 ((decide ((v23 : Int) = v14) = true →
  (((!decide ((v24 : Int) = v15)) = true →
   post [0]) ∧ ((!decide ((v24 : Int) = v15)) = false →
   post [1]))) ∧ (decide ((v23 : Int) = v14) = false →
  post [0]))
theorem q9 (T : Tab) (I : Nat → List Int → List Int → Prop) (M : Nat → List Int → List Int → Nat) (pre : Nat → List Int → Prop) (post : List Int → Prop) (v0 v1 v2 v3 v4 v5 v6 : Int) : t9.plain T (presL pre I M) post ⟨[v0, v1, v2, v3, v4, v5, v6], []⟩ = p9 T I M pre post v0 v1 v2 v3 v4 v5 v6 := by kernel_rfl
theorem k9 (T : Tab) (I : Nat → List Int → List Int → Prop) (M : Nat → List Int → List Int → Nat) (pre : Nat → List Int → Prop) (hs : SubSig T c9.sigs) (ht : Tot pre c9.sigs) (hg : T.sig 9 = some s9) (hC : CtAll Try.prog T.fns (pres pre) c9.sigs)
    (h : ∀ (v0 v1 v2 v3 v4 v5 v6 : Int), (0 ≤ v0 ∧ v0 ≤ 1) → (0 ≤ v1 ∧ v1 ≤ 4294967295) → (0 ≤ v2 ∧ v2 ≤ 4294967295) → (0 ≤ v3 ∧ v3 ≤ 4294967295) → (0 ≤ v4 ∧ v4 ≤ 4294967295) → (0 ≤ v5 ∧ v5 ≤ 4294967295) → (0 ≤ v6 ∧ v6 ≤ 4294967295) → pre 9 [v0, v1, v2, v3, v4, v5, v6] → p9 T I M pre (fun ys => ys = T.fn 9 [v0, v1, v2, v3, v4, v5, v6]) v0 v1 v2 v3 v4 v5 v6) : CT Try.prog T.fns (pres pre) 9 s9 :=
  T.ctq (F := ⟨c9, []⟩) (fuel := 250) v9 Try.checked.mixed hs ht hg hC Try.func9 I M (fun _ h _ => h) fun xs hx hp => by
    match xs, hx, hp with
    | [v0, v1, v2, v3, v4, v5, v6], hx, hp => rw [q9]; exact h v0 v1 v2 v3 v4 v5 v6 hx.1 hx.2.1 hx.2.2.1 hx.2.2.2.1 hx.2.2.2.2.1 hx.2.2.2.2.2.1 hx.2.2.2.2.2.2.1 hp

/-- loop.example/g01242/laws.toUint32A6 -/
noncomputable def c85 : Cfg := ⟨Try.prog, []⟩
def iv85 : List Iv := [⟨0, 4294967295⟩, ⟨0, 4294967295⟩, ⟨0, 4294967295⟩, ⟨0, 4294967295⟩, ⟨0, 4294967295⟩, ⟨0, 4294967295⟩]
def t85 : VC :=
 (.fin (.e (.var 0) (.e (.var 1) (.e (.var 2) (.e (.var 3) (.e (.var 4) (.e (.var 5) .nil)))))))
theorem v85 : vcOfI ⟨c85, []⟩ iv85 250 Try.f85 s85 = t85 := by kernel_rfl
set_option linter.unusedVariables false in
def p85 (T : Tab) (I : Nat → List Int → List Int → Prop) (M : Nat → List Int → List Int → Nat) (pre : Nat → List Int → Prop) (post : List Int → Prop) (v0 v1 v2 v3 v4 v5 : Int) : Prop :=
 post [v0, v1, v2, v3, v4, v5]
theorem q85 (T : Tab) (I : Nat → List Int → List Int → Prop) (M : Nat → List Int → List Int → Nat) (pre : Nat → List Int → Prop) (post : List Int → Prop) (v0 v1 v2 v3 v4 v5 : Int) : t85.plain T (presL pre I M) post ⟨[v0, v1, v2, v3, v4, v5], []⟩ = p85 T I M pre post v0 v1 v2 v3 v4 v5 := by kernel_rfl
theorem k85 (T : Tab) (I : Nat → List Int → List Int → Prop) (M : Nat → List Int → List Int → Nat) (pre : Nat → List Int → Prop) (hs : SubSig T c85.sigs) (ht : Tot pre c85.sigs) (hg : T.sig 85 = some s85) (hC : CtAll Try.prog T.fns (pres pre) c85.sigs)
    (h : ∀ (v0 v1 v2 v3 v4 v5 : Int), (0 ≤ v0 ∧ v0 ≤ 4294967295) → (0 ≤ v1 ∧ v1 ≤ 4294967295) → (0 ≤ v2 ∧ v2 ≤ 4294967295) → (0 ≤ v3 ∧ v3 ≤ 4294967295) → (0 ≤ v4 ∧ v4 ≤ 4294967295) → (0 ≤ v5 ∧ v5 ≤ 4294967295) → pre 85 [v0, v1, v2, v3, v4, v5] → p85 T I M pre (fun ys => ys = T.fn 85 [v0, v1, v2, v3, v4, v5]) v0 v1 v2 v3 v4 v5) : CT Try.prog T.fns (pres pre) 85 s85 :=
  T.ctq (F := ⟨c85, []⟩) (fuel := 250) v85 Try.checked.mixed hs ht hg hC Try.func85 I M (fun _ h _ => h) fun xs hx hp => by
    match xs, hx, hp with
    | [v0, v1, v2, v3, v4, v5], hx, hp => rw [q85]; exact h v0 v1 v2 v3 v4 v5 hx.1 hx.2.1 hx.2.2.1 hx.2.2.2.1 hx.2.2.2.2.1 hx.2.2.2.2.2.1 hp

/-- loop.example/g01242/laws.toWide -/
noncomputable def c47 : Cfg := ⟨Try.prog, [(85, s85)]⟩
def iv47 : List Iv := [⟨0, 1⟩, ⟨0, 4294967295⟩, ⟨0, 4294967295⟩, ⟨0, 4294967295⟩, ⟨0, 4294967295⟩, ⟨0, 4294967295⟩, ⟨0, 4294967295⟩]
def t47 : VC :=
 (.call 85 (.e (.var 1) (.e (.var 2) (.e (.var 3) (.e (.var 4) (.e (.var 5) (.e (.var 6) .nil)))))) 6
 (.fin (.e (.var 0) (.e (.var 7) (.e (.var 8) (.e (.var 9) (.e (.var 10) (.e (.var 11) (.e (.var 12) .nil)))))))))
theorem v47 : vcOfI ⟨c47, []⟩ iv47 250 Try.f47 s47 = t47 := by kernel_rfl
set_option linter.unusedVariables false in
def p47 (T : Tab) (I : Nat → List Int → List Int → Prop) (M : Nat → List Int → List Int → Nat) (pre : Nat → List Int → Prop) (post : List Int → Prop) (v0 v1 v2 v3 v4 v5 v6 : Int) : Prop :=
 ∀ v7 v8 v9 v10 v11 v12 : Int, [v7, v8, v9, v10, v11, v12] = T.out 85 6 [v1, v2, v3, v4, v5, v6] →
 post [v0, v7, v8, v9, v10, v11, v12]
theorem q47 (T : Tab) (I : Nat → List Int → List Int → Prop) (M : Nat → List Int → List Int → Nat) (pre : Nat → List Int → Prop) (post : List Int → Prop) (v0 v1 v2 v3 v4 v5 v6 : Int) : t47.plain T (presL pre I M) post ⟨[v0, v1, v2, v3, v4, v5, v6], []⟩ = p47 T I M pre post v0 v1 v2 v3 v4 v5 v6 := by kernel_rfl
theorem k47 (T : Tab) (I : Nat → List Int → List Int → Prop) (M : Nat → List Int → List Int → Nat) (pre : Nat → List Int → Prop) (hs : SubSig T c47.sigs) (ht : Tot pre c47.sigs) (hg : T.sig 47 = some s47) (hC : CtAll Try.prog T.fns (pres pre) c47.sigs)
    (h : ∀ (v0 v1 v2 v3 v4 v5 v6 : Int), (0 ≤ v0 ∧ v0 ≤ 1) → (0 ≤ v1 ∧ v1 ≤ 4294967295) → (0 ≤ v2 ∧ v2 ≤ 4294967295) → (0 ≤ v3 ∧ v3 ≤ 4294967295) → (0 ≤ v4 ∧ v4 ≤ 4294967295) → (0 ≤ v5 ∧ v5 ≤ 4294967295) → (0 ≤ v6 ∧ v6 ≤ 4294967295) → pre 47 [v0, v1, v2, v3, v4, v5, v6] → p47 T I M pre (fun ys => ys = T.fn 47 [v0, v1, v2, v3, v4, v5, v6]) v0 v1 v2 v3 v4 v5 v6) : CT Try.prog T.fns (pres pre) 47 s47 :=
  T.ctq (F := ⟨c47, []⟩) (fuel := 250) v47 Try.checked.mixed hs ht hg hC Try.func47 I M (fun _ h _ => h) fun xs hx hp => by
    match xs, hx, hp with
    | [v0, v1, v2, v3, v4, v5, v6], hx, hp => rw [q47]; exact h v0 v1 v2 v3 v4 v5 v6 hx.1 hx.2.1 hx.2.2.1 hx.2.2.2.1 hx.2.2.2.2.1 hx.2.2.2.2.2.1 hx.2.2.2.2.2.2.1 hp

/-- loop.example/g01242/spec.l01Ok -/
noncomputable def c68 : Cfg := ⟨Try.prog, []⟩
def iv68 : List Iv := [⟨0, 1⟩, ⟨0, 4294967295⟩, ⟨0, 4294967295⟩, ⟨0, 4294967295⟩, ⟨0, 4294967295⟩, ⟨0, 4294967295⟩, ⟨0, 4294967295⟩]
def t68 : VC :=
 (.ite (.eq (.var 0) (.lit 1))
  (.bind (.ite (.not (.and (.eq (.var 1) (.lit 0)) (.and (.eq (.var 2) (.lit 0)) (.and (.eq (.var 3) (.lit 0)) (.and (.eq (.var 4) (.lit 0)) (.and (.eq (.var 5) (.lit 0)) (.eq (.var 6) (.lit 0)))))))) (.lit 1) (.lit 0))
  (.fin (.e (.var 7) .nil)))
  (.fin (.e (.lit 1) .nil)))
theorem v68 : vcOfI ⟨c68, []⟩ iv68 250 Try.f68 s68 = t68 := by kernel_rfl
set_option linter.unusedVariables false in
def p68 (T : Tab) (I : Nat → List Int → List Int → Prop) (M : Nat → List Int → List Int → Nat) (pre : Nat → List Int → Prop) (post : List Int → Prop) (v0 v1 v2 v3 v4 v5 v6 : Int) : Prop :=
 ((decide ((v0 : Int) = 1) = true →
  ∀ v7 : Int, v7 = (if (!(decide ((v1 : Int) = 0) && (decide ((v2 : Int) = 0) && (decide ((v3 : Int) = 0) && (decide ((v4 : Int) = 0) && (decide ((v5 : Int) = 0) && decide ((v6 : Int) = 0))))))) = true then 1 else 0) →
  post [v7]) ∧ (decide ((v0 : Int) = 1) = false →
  post [1]))
theorem q68 (T : Tab) (I : Nat → List Int → List Int → Prop) (M : Nat → List Int → List Int → Nat) (pre : Nat → List Int → Prop) (post : List Int → Prop) (v0 v1 v2 v3 v4 v5 v6 : Int) : t68.plain T (presL pre I M) post ⟨[v0, v1, v2, v3, v4, v5, v6], []⟩ = p68 T I M pre post v0 v1 v2 v3 v4 v5 v6 := by kernel_rfl
theorem k68 (T : Tab) (I : Nat → List Int → List Int → Prop) (M : Nat → List Int → List Int → Nat) (pre : Nat → List Int → Prop) (hs : SubSig T c68.sigs) (ht : Tot pre c68.sigs) (hg : T.sig 68 = some s68) (hC : CtAll Try.prog T.fns (pres pre) c68.sigs)
    (h : ∀ (v0 v1 v2 v3 v4 v5 v6 : Int), (0 ≤ v0 ∧ v0 ≤ 1) → (0 ≤ v1 ∧ v1 ≤ 4294967295) → (0 ≤ v2 ∧ v2 ≤ 4294967295) → (0 ≤ v3 ∧ v3 ≤ 4294967295) → (0 ≤ v4 ∧ v4 ≤ 4294967295) → (0 ≤ v5 ∧ v5 ≤ 4294967295) → (0 ≤ v6 ∧ v6 ≤ 4294967295) → pre 68 [v0, v1, v2, v3, v4, v5, v6] → p68 T I M pre (fun ys => ys = T.fn 68 [v0, v1, v2, v3, v4, v5, v6]) v0 v1 v2 v3 v4 v5 v6) : CT Try.prog T.fns (pres pre) 68 s68 :=
  T.ctq (F := ⟨c68, []⟩) (fuel := 250) v68 Try.checked.mixed hs ht hg hC Try.func68 I M (fun _ h _ => h) fun xs hx hp => by
    match xs, hx, hp with
    | [v0, v1, v2, v3, v4, v5, v6], hx, hp => rw [q68]; exact h v0 v1 v2 v3 v4 v5 v6 hx.1 hx.2.1 hx.2.2.1 hx.2.2.2.1 hx.2.2.2.2.1 hx.2.2.2.2.2.1 hx.2.2.2.2.2.2.1 hp

/-- loop.example/g01242/spec.l01Bits -/
noncomputable def c89 : Cfg := ⟨Try.prog, []⟩
def iv89 : List Iv := [⟨0, 4294967295⟩, ⟨0, 4294967295⟩, ⟨0, 4294967295⟩, ⟨0, 4294967295⟩, ⟨0, 4294967295⟩, ⟨0, 4294967295⟩]
def t89 : VC :=
 (.ite (.eq (.var 5) (.lit 0))
  (.ite (.eq (.var 4) (.lit 0))
   (.ite (.eq (.var 3) (.lit 0))
    (.ite (.eq (.var 2) (.lit 0))
     (.ite (.eq (.var 1) (.lit 0))
      (.ite (.eq (.var 0) (.lit 0))
       (.fin (.e (.lit 0) .nil))
       (.loop 0 [(.lit 0), (.var 0)] [⟨0, 32⟩, ⟨0, 4294967295⟩]
        (.ite (.lt (.lit 0) (.var 7))
         (.bind (.div (.var 7) (.lit 2))
         (.again 0 6 [⟨0, 32⟩, ⟨0, 4294967295⟩] [(.add (.var 6) (.lit 1)), (.var 8)]))
         (.bind (.add (.lit 0) (.var 6))
         (.fin (.e (.var 8) .nil))))))
      (.loop 0 [(.lit 0), (.var 1)] [⟨0, 32⟩, ⟨0, 4294967295⟩]
       (.ite (.lt (.lit 0) (.var 7))
        (.bind (.div (.var 7) (.lit 2))
        (.again 0 6 [⟨0, 32⟩, ⟨0, 4294967295⟩] [(.add (.var 6) (.lit 1)), (.var 8)]))
        (.bind (.add (.lit 32) (.var 6))
        (.fin (.e (.var 8) .nil))))))
     (.loop 0 [(.lit 0), (.var 2)] [⟨0, 32⟩, ⟨0, 4294967295⟩]
      (.ite (.lt (.lit 0) (.var 7))
       (.bind (.div (.var 7) (.lit 2))
       (.again 0 6 [⟨0, 32⟩, ⟨0, 4294967295⟩] [(.add (.var 6) (.lit 1)), (.var 8)]))
       (.bind (.add (.lit 64) (.var 6))
       (.fin (.e (.var 8) .nil))))))
    (.loop 0 [(.lit 0), (.var 3)] [⟨0, 32⟩, ⟨0, 4294967295⟩]
     (.ite (.lt (.lit 0) (.var 7))
      (.bind (.div (.var 7) (.lit 2))
      (.again 0 6 [⟨0, 32⟩, ⟨0, 4294967295⟩] [(.add (.var 6) (.lit 1)), (.var 8)]))
      (.bind (.add (.lit 96) (.var 6))
      (.fin (.e (.var 8) .nil))))))
   (.loop 0 [(.lit 0), (.var 4)] [⟨0, 32⟩, ⟨0, 4294967295⟩]
    (.ite (.lt (.lit 0) (.var 7))
     (.bind (.div (.var 7) (.lit 2))
     (.again 0 6 [⟨0, 32⟩, ⟨0, 4294967295⟩] [(.add (.var 6) (.lit 1)), (.var 8)]))
     (.bind (.add (.lit 128) (.var 6))
     (.fin (.e (.var 8) .nil))))))
  (.loop 0 [(.lit 0), (.var 5)] [⟨0, 32⟩, ⟨0, 4294967295⟩]
   (.ite (.lt (.lit 0) (.var 7))
    (.bind (.div (.var 7) (.lit 2))
    (.again 0 6 [⟨0, 32⟩, ⟨0, 4294967295⟩] [(.add (.var 6) (.lit 1)), (.var 8)]))
    (.bind (.add (.lit 160) (.var 6))
    (.fin (.e (.var 8) .nil))))))
theorem v89 : vcOfI ⟨c89, [(7, ⟨0, [4, 5], [], [21, 22, 25, 26, 23, 24], [⟨0, 32⟩, ⟨0, 4294967295⟩]⟩)]⟩ iv89 250 Try.f89 s89 = t89 := by kernel_rfl
set_option linter.unusedVariables false in
def p89 (T : Tab) (I : Nat → List Int → List Int → Prop) (M : Nat → List Int → List Int → Nat) (pre : Nat → List Int → Prop) (post : List Int → Prop) (v0 v1 v2 v3 v4 v5 : Int) : Prop :=
 ((decide ((v5 : Int) = 0) = true →
  ((decide ((v4 : Int) = 0) = true →
   ((decide ((v3 : Int) = 0) = true →
    ((decide ((v2 : Int) = 0) = true →
     ((decide ((v1 : Int) = 0) = true →
      ((decide ((v0 : Int) = 0) = true →
       post [0]) ∧ (decide ((v0 : Int) = 0) = false →
       ((allHas [⟨0, 32⟩, ⟨0, 4294967295⟩] [0, v0] ∧ I 0 [v0, v1, v2, v3, v4, v5] [0, v0]) ∧ ∀ v6 v7 : Int, allHas [⟨0, 32⟩, ⟨0, 4294967295⟩] [v6, v7] → I 0 [v0, v1, v2, v3, v4, v5] [v6, v7] →
        ((decide ((0 : Int) < v7) = true →
         ∀ v8 : Int, v8 = (v7 / 2) →
         (allHas [⟨0, 32⟩, ⟨0, 4294967295⟩] [(v6 + 1), v8] ∧ I 0 [v0, v1, v2, v3, v4, v5] [(v6 + 1), v8] ∧ M 0 [v0, v1, v2, v3, v4, v5] [(v6 + 1), v8] < M 0 [v0, v1, v2, v3, v4, v5] [v6, v7])) ∧ (decide ((0 : Int) < v7) = false →
         ∀ v8 : Int, v8 = (0 + v6) →
         post [v8])))))) ∧ (decide ((v1 : Int) = 0) = false →
      ((allHas [⟨0, 32⟩, ⟨0, 4294967295⟩] [0, v1] ∧ I 0 [v0, v1, v2, v3, v4, v5] [0, v1]) ∧ ∀ v6 v7 : Int, allHas [⟨0, 32⟩, ⟨0, 4294967295⟩] [v6, v7] → I 0 [v0, v1, v2, v3, v4, v5] [v6, v7] →
       ((decide ((0 : Int) < v7) = true →
        ∀ v8 : Int, v8 = (v7 / 2) →
        (allHas [⟨0, 32⟩, ⟨0, 4294967295⟩] [(v6 + 1), v8] ∧ I 0 [v0, v1, v2, v3, v4, v5] [(v6 + 1), v8] ∧ M 0 [v0, v1, v2, v3, v4, v5] [(v6 + 1), v8] < M 0 [v0, v1, v2, v3, v4, v5] [v6, v7])) ∧ (decide ((0 : Int) < v7) = false →
        ∀ v8 : Int, v8 = (32 + v6) →
        post [v8])))))) ∧ (decide ((v2 : Int) = 0) = false →
     ((allHas [⟨0, 32⟩, ⟨0, 4294967295⟩] [0, v2] ∧ I 0 [v0, v1, v2, v3, v4, v5] [0, v2]) ∧ ∀ v6 v7 : Int, allHas [⟨0, 32⟩, ⟨0, 4294967295⟩] [v6, v7] → I 0 [v0, v1, v2, v3, v4, v5] [v6, v7] →
      ((decide ((0 : Int) < v7) = true →
       ∀ v8 : Int, v8 = (v7 / 2) →
       (allHas [⟨0, 32⟩, ⟨0, 4294967295⟩] [(v6 + 1), v8] ∧ I 0 [v0, v1, v2, v3, v4, v5] [(v6 + 1), v8] ∧ M 0 [v0, v1, v2, v3, v4, v5] [(v6 + 1), v8] < M 0 [v0, v1, v2, v3, v4, v5] [v6, v7])) ∧ (decide ((0 : Int) < v7) = false →
       ∀ v8 : Int, v8 = (64 + v6) →
       post [v8])))))) ∧ (decide ((v3 : Int) = 0) = false →
    ((allHas [⟨0, 32⟩, ⟨0, 4294967295⟩] [0, v3] ∧ I 0 [v0, v1, v2, v3, v4, v5] [0, v3]) ∧ ∀ v6 v7 : Int, allHas [⟨0, 32⟩, ⟨0, 4294967295⟩] [v6, v7] → I 0 [v0, v1, v2, v3, v4, v5] [v6, v7] →
     ((decide ((0 : Int) < v7) = true →
      ∀ v8 : Int, v8 = (v7 / 2) →
      (allHas [⟨0, 32⟩, ⟨0, 4294967295⟩] [(v6 + 1), v8] ∧ I 0 [v0, v1, v2, v3, v4, v5] [(v6 + 1), v8] ∧ M 0 [v0, v1, v2, v3, v4, v5] [(v6 + 1), v8] < M 0 [v0, v1, v2, v3, v4, v5] [v6, v7])) ∧ (decide ((0 : Int) < v7) = false →
      ∀ v8 : Int, v8 = (96 + v6) →
      post [v8])))))) ∧ (decide ((v4 : Int) = 0) = false →
   ((allHas [⟨0, 32⟩, ⟨0, 4294967295⟩] [0, v4] ∧ I 0 [v0, v1, v2, v3, v4, v5] [0, v4]) ∧ ∀ v6 v7 : Int, allHas [⟨0, 32⟩, ⟨0, 4294967295⟩] [v6, v7] → I 0 [v0, v1, v2, v3, v4, v5] [v6, v7] →
    ((decide ((0 : Int) < v7) = true →
     ∀ v8 : Int, v8 = (v7 / 2) →
     (allHas [⟨0, 32⟩, ⟨0, 4294967295⟩] [(v6 + 1), v8] ∧ I 0 [v0, v1, v2, v3, v4, v5] [(v6 + 1), v8] ∧ M 0 [v0, v1, v2, v3, v4, v5] [(v6 + 1), v8] < M 0 [v0, v1, v2, v3, v4, v5] [v6, v7])) ∧ (decide ((0 : Int) < v7) = false →
     ∀ v8 : Int, v8 = (128 + v6) →
     post [v8])))))) ∧ (decide ((v5 : Int) = 0) = false →
  ((allHas [⟨0, 32⟩, ⟨0, 4294967295⟩] [0, v5] ∧ I 0 [v0, v1, v2, v3, v4, v5] [0, v5]) ∧ ∀ v6 v7 : Int, allHas [⟨0, 32⟩, ⟨0, 4294967295⟩] [v6, v7] → I 0 [v0, v1, v2, v3, v4, v5] [v6, v7] →
   ((decide ((0 : Int) < v7) = true →
    ∀ v8 : Int, v8 = (v7 / 2) →
    (allHas [⟨0, 32⟩, ⟨0, 4294967295⟩] [(v6 + 1), v8] ∧ I 0 [v0, v1, v2, v3, v4, v5] [(v6 + 1), v8] ∧ M 0 [v0, v1, v2, v3, v4, v5] [(v6 + 1), v8] < M 0 [v0, v1, v2, v3, v4, v5] [v6, v7])) ∧ (decide ((0 : Int) < v7) = false →
    ∀ v8 : Int, v8 = (160 + v6) →
    post [v8])))))
theorem q89 (T : Tab) (I : Nat → List Int → List Int → Prop) (M : Nat → List Int → List Int → Nat) (pre : Nat → List Int → Prop) (post : List Int → Prop) (v0 v1 v2 v3 v4 v5 : Int) : t89.plain T (presL pre I M) post ⟨[v0, v1, v2, v3, v4, v5], []⟩ = p89 T I M pre post v0 v1 v2 v3 v4 v5 := by kernel_rfl
theorem k89 (T : Tab) (I : Nat → List Int → List Int → Prop) (M : Nat → List Int → List Int → Nat) (pre : Nat → List Int → Prop) (hs : SubSig T c89.sigs) (ht : Tot pre c89.sigs) (hg : T.sig 89 = some s89) (hC : CtAll Try.prog T.fns (pres pre) c89.sigs)
    (h : ∀ (v0 v1 v2 v3 v4 v5 : Int), (0 ≤ v0 ∧ v0 ≤ 4294967295) → (0 ≤ v1 ∧ v1 ≤ 4294967295) → (0 ≤ v2 ∧ v2 ≤ 4294967295) → (0 ≤ v3 ∧ v3 ≤ 4294967295) → (0 ≤ v4 ∧ v4 ≤ 4294967295) → (0 ≤ v5 ∧ v5 ≤ 4294967295) → pre 89 [v0, v1, v2, v3, v4, v5] → p89 T I M pre (fun ys => ys = T.fn 89 [v0, v1, v2, v3, v4, v5]) v0 v1 v2 v3 v4 v5) : CT Try.prog T.fns (pres pre) 89 s89 :=
  T.ctq (F := ⟨c89, [(7, ⟨0, [4, 5], [], [21, 22, 25, 26, 23, 24], [⟨0, 32⟩, ⟨0, 4294967295⟩]⟩)]⟩) (fuel := 250) v89 Try.checked.mixed hs ht hg hC Try.func89 I M (fun _ h _ => h) fun xs hx hp => by
    match xs, hx, hp with
    | [v0, v1, v2, v3, v4, v5], hx, hp => rw [q89]; exact h v0 v1 v2 v3 v4 v5 hx.1 hx.2.1 hx.2.2.1 hx.2.2.2.1 hx.2.2.2.2.1 hx.2.2.2.2.2.1 hp

/-- loop.example/g01242/spec.SizeOf -/
noncomputable def c52 : Cfg := ⟨Try.prog, [(68, s68), (89, s89)]⟩
def iv52 : List Iv := [⟨0, 1⟩, ⟨0, 4294967295⟩, ⟨0, 4294967295⟩, ⟨0, 4294967295⟩, ⟨0, 4294967295⟩, ⟨0, 4294967295⟩, ⟨0, 4294967295⟩]
def t52 : VC :=
 (.call 68 (.e (.var 0) (.e (.var 1) (.e (.var 2) (.e (.var 3) (.e (.var 4) (.e (.var 5) (.e (.var 6) .nil))))))) 1
 (.ite (.not (.eq (.var 7) (.lit 1)))
  (.fin (.e (.lit 0) (.e (.lit 1) .nil)))
  (.call 89 (.e (.var 1) (.e (.var 2) (.e (.var 3) (.e (.var 4) (.e (.var 5) (.e (.var 6) .nil)))))) 1
  (.fin (.e (.var 8) (.e (.lit 0) .nil))))))
theorem v52 : vcOfI ⟨c52, []⟩ iv52 250 Try.f52 s52 = t52 := by kernel_rfl
set_option linter.unusedVariables false in
def p52 (T : Tab) (I : Nat → List Int → List Int → Prop) (M : Nat → List Int → List Int → Nat) (pre : Nat → List Int → Prop) (post : List Int → Prop) (v0 v1 v2 v3 v4 v5 v6 : Int) : Prop :=
 ∀ v7 : Int, [v7] = T.out 68 1 [v0, v1, v2, v3, v4, v5, v6] →
 (((!decide ((v7 : Int) = 1)) = true →
  post [0, 1]) ∧ ((!decide ((v7 : Int) = 1)) = false →
  ∀ v8 : Int, [v8] = T.out 89 1 [v1, v2, v3, v4, v5, v6] →
  post [v8, 0]))
theorem q52 (T : Tab) (I : Nat → List Int → List Int → Prop) (M : Nat → List Int → List Int → Nat) (pre : Nat → List Int → Prop) (post : List Int → Prop) (v0 v1 v2 v3 v4 v5 v6 : Int) : t52.plain T (presL pre I M) post ⟨[v0, v1, v2, v3, v4, v5, v6], []⟩ = p52 T I M pre post v0 v1 v2 v3 v4 v5 v6 := by kernel_rfl
theorem k52 (T : Tab) (I : Nat → List Int → List Int → Prop) (M : Nat → List Int → List Int → Nat) (pre : Nat → List Int → Prop) (hs : SubSig T c52.sigs) (ht : Tot pre c52.sigs) (hg : T.sig 52 = some s52) (hC : CtAll Try.prog T.fns (pres pre) c52.sigs)
    (h : ∀ (v0 v1 v2 v3 v4 v5 v6 : Int), (0 ≤ v0 ∧ v0 ≤ 1) → (0 ≤ v1 ∧ v1 ≤ 4294967295) → (0 ≤ v2 ∧ v2 ≤ 4294967295) → (0 ≤ v3 ∧ v3 ≤ 4294967295) → (0 ≤ v4 ∧ v4 ≤ 4294967295) → (0 ≤ v5 ∧ v5 ≤ 4294967295) → (0 ≤ v6 ∧ v6 ≤ 4294967295) → pre 52 [v0, v1, v2, v3, v4, v5, v6] → p52 T I M pre (fun ys => ys = T.fn 52 [v0, v1, v2, v3, v4, v5, v6]) v0 v1 v2 v3 v4 v5 v6) : CT Try.prog T.fns (pres pre) 52 s52 :=
  T.ctq (F := ⟨c52, []⟩) (fuel := 250) v52 Try.checked.mixed hs ht hg hC Try.func52 I M (fun _ h _ => h) fun xs hx hp => by
    match xs, hx, hp with
    | [v0, v1, v2, v3, v4, v5, v6], hx, hp => rw [q52]; exact h v0 v1 v2 v3 v4 v5 v6 hx.1 hx.2.1 hx.2.2.1 hx.2.2.2.1 hx.2.2.2.2.1 hx.2.2.2.2.2.1 hx.2.2.2.2.2.2.1 hp

end Go.Proofs.Ytppbanmlifikpaa.Sx
