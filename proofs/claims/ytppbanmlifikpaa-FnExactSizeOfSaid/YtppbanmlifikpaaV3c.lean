/-
  What the symbolic executor asks of these functions, written out by a program of mine, and that it asks just this.
-/
import Derived.Test.YtppbanmlifikpaaV3s
import Derived.Test.YtppbanmlifikpaaChecked
import Derived.KernelRfl
namespace Go.Proofs.Ytppbanmlifikpaa.Sx
open Go Go.RowKit
/-- loop.example/g01242/impl.SizeOf -/
noncomputable def c26 : Cfg := ⟨Try.prog, [(21, s21), (71, s71)]⟩
def iv26 : List Iv := [⟨0, 1⟩, ⟨0, 4294967295⟩, ⟨0, 4294967295⟩, ⟨0, 4294967295⟩, ⟨0, 4294967295⟩, ⟨0, 4294967295⟩, ⟨0, 4294967295⟩]
def t26 : VC :=
 (.call 21 (.e (.var 0) (.e (.var 1) (.e (.var 2) (.e (.var 3) (.e (.var 4) (.e (.var 5) (.e (.var 6) .nil))))))) 1
 (.ite (.not (.eq (.var 7) (.lit 1)))
  (.fin (.e (.lit 0) (.e (.lit 1) .nil)))
  (.call 71 (.e (.var 1) (.e (.var 2) (.e (.var 3) (.e (.var 4) (.e (.var 5) (.e (.var 6) .nil)))))) 1
  (.fin (.e (.var 8) (.e (.lit 0) .nil))))))
theorem v26 : vcOfI ⟨c26, []⟩ iv26 250 Try.f26 s26 = t26 := by kernel_rfl
set_option linter.unusedVariables false in
def p26 (T : Tab) (I : Nat → List Int → List Int → Prop) (M : Nat → List Int → List Int → Nat) (pre : Nat → List Int → Prop) (post : List Int → Prop) (v0 v1 v2 v3 v4 v5 v6 : Int) : Prop :=
 ∀ v7 : Int, [v7] = T.out 21 1 [v0, v1, v2, v3, v4, v5, v6] →
 (((!decide ((v7 : Int) = 1)) = true →
  post [0, 1]) ∧ ((!decide ((v7 : Int) = 1)) = false →
  ∀ v8 : Int, [v8] = T.out 71 1 [v1, v2, v3, v4, v5, v6] →
  post [v8, 0]))
theorem q26 (T : Tab) (I : Nat → List Int → List Int → Prop) (M : Nat → List Int → List Int → Nat) (pre : Nat → List Int → Prop) (post : List Int → Prop) (v0 v1 v2 v3 v4 v5 v6 : Int) : t26.plain T (presL pre I M) post ⟨[v0, v1, v2, v3, v4, v5, v6], []⟩ = p26 T I M pre post v0 v1 v2 v3 v4 v5 v6 := by kernel_rfl
theorem k26 (T : Tab) (I : Nat → List Int → List Int → Prop) (M : Nat → List Int → List Int → Nat) (pre : Nat → List Int → Prop) (hs : SubSig T c26.sigs) (ht : Tot pre c26.sigs) (hg : T.sig 26 = some s26) (hC : CtAll Try.prog T.fns (pres pre) c26.sigs)
    (h : ∀ (v0 v1 v2 v3 v4 v5 v6 : Int), (0 ≤ v0 ∧ v0 ≤ 1) → (0 ≤ v1 ∧ v1 ≤ 4294967295) → (0 ≤ v2 ∧ v2 ≤ 4294967295) → (0 ≤ v3 ∧ v3 ≤ 4294967295) → (0 ≤ v4 ∧ v4 ≤ 4294967295) → (0 ≤ v5 ∧ v5 ≤ 4294967295) → (0 ≤ v6 ∧ v6 ≤ 4294967295) → pre 26 [v0, v1, v2, v3, v4, v5, v6] → p26 T I M pre (fun ys => ys = T.fn 26 [v0, v1, v2, v3, v4, v5, v6]) v0 v1 v2 v3 v4 v5 v6) : CT Try.prog T.fns (pres pre) 26 s26 :=
  T.ctq (F := ⟨c26, []⟩) (fuel := 250) v26 Try.checked.mixed hs ht hg hC Try.func26 I M (fun _ h _ => h) fun xs hx hp => by
    match xs, hx, hp with
    | [v0, v1, v2, v3, v4, v5, v6], hx, hp => rw [q26]; exact h v0 v1 v2 v3 v4 v5 v6 hx.1 hx.2.1 hx.2.2.1 hx.2.2.2.1 hx.2.2.2.2.1 hx.2.2.2.2.2.1 hx.2.2.2.2.2.2.1 hp

/-- loop.example/g01242/impl.SignOf -/
noncomputable def c24 : Cfg := ⟨Try.prog, [(21, s21), (70, s70)]⟩
def iv24 : List Iv := [⟨0, 1⟩, ⟨0, 4294967295⟩, ⟨0, 4294967295⟩, ⟨0, 4294967295⟩, ⟨0, 4294967295⟩, ⟨0, 4294967295⟩, ⟨0, 4294967295⟩]
def t24 : VC :=
 (.call 21 (.e (.var 0) (.e (.var 1) (.e (.var 2) (.e (.var 3) (.e (.var 4) (.e (.var 5) (.e (.var 6) .nil))))))) 1
 (.ite (.not (.eq (.var 7) (.lit 1)))
  (.fin (.e (.lit 0) (.e (.lit 1) .nil)))
  (.call 70 (.e (.var 0) (.e (.var 1) (.e (.var 2) (.e (.var 3) (.e (.var 4) (.e (.var 5) (.e (.var 6) .nil))))))) 1
  (.fin (.e (.var 8) (.e (.lit 0) .nil))))))
theorem v24 : vcOfI ⟨c24, []⟩ iv24 250 Try.f24 s24 = t24 := by kernel_rfl
set_option linter.unusedVariables false in
def p24 (T : Tab) (I : Nat → List Int → List Int → Prop) (M : Nat → List Int → List Int → Nat) (pre : Nat → List Int → Prop) (post : List Int → Prop) (v0 v1 v2 v3 v4 v5 v6 : Int) : Prop :=
 ∀ v7 : Int, [v7] = T.out 21 1 [v0, v1, v2, v3, v4, v5, v6] →
 (((!decide ((v7 : Int) = 1)) = true →
  post [0, 1]) ∧ ((!decide ((v7 : Int) = 1)) = false →
  ∀ v8 : Int, [v8] = T.out 70 1 [v0, v1, v2, v3, v4, v5, v6] →
  post [v8, 0]))
theorem q24 (T : Tab) (I : Nat → List Int → List Int → Prop) (M : Nat → List Int → List Int → Nat) (pre : Nat → List Int → Prop) (post : List Int → Prop) (v0 v1 v2 v3 v4 v5 v6 : Int) : t24.plain T (presL pre I M) post ⟨[v0, v1, v2, v3, v4, v5, v6], []⟩ = p24 T I M pre post v0 v1 v2 v3 v4 v5 v6 := by kernel_rfl
theorem k24 (T : Tab) (I : Nat → List Int → List Int → Prop) (M : Nat → List Int → List Int → Nat) (pre : Nat → List Int → Prop) (hs : SubSig T c24.sigs) (ht : Tot pre c24.sigs) (hg : T.sig 24 = some s24) (hC : CtAll Try.prog T.fns (pres pre) c24.sigs)
    (h : ∀ (v0 v1 v2 v3 v4 v5 v6 : Int), (0 ≤ v0 ∧ v0 ≤ 1) → (0 ≤ v1 ∧ v1 ≤ 4294967295) → (0 ≤ v2 ∧ v2 ≤ 4294967295) → (0 ≤ v3 ∧ v3 ≤ 4294967295) → (0 ≤ v4 ∧ v4 ≤ 4294967295) → (0 ≤ v5 ∧ v5 ≤ 4294967295) → (0 ≤ v6 ∧ v6 ≤ 4294967295) → pre 24 [v0, v1, v2, v3, v4, v5, v6] → p24 T I M pre (fun ys => ys = T.fn 24 [v0, v1, v2, v3, v4, v5, v6]) v0 v1 v2 v3 v4 v5 v6) : CT Try.prog T.fns (pres pre) 24 s24 :=
  T.ctq (F := ⟨c24, []⟩) (fuel := 250) v24 Try.checked.mixed hs ht hg hC Try.func24 I M (fun _ h _ => h) fun xs hx hp => by
    match xs, hx, hp with
    | [v0, v1, v2, v3, v4, v5, v6], hx, hp => rw [q24]; exact h v0 v1 v2 v3 v4 v5 v6 hx.1 hx.2.1 hx.2.2.1 hx.2.2.2.1 hx.2.2.2.2.1 hx.2.2.2.2.2.1 hx.2.2.2.2.2.2.1 hp

/-- loop.example/g01242/impl.signOfValid -/
noncomputable def c70 : Cfg := ⟨Try.prog, [(97, s97), (98, s98), (99, s99)]⟩
def iv70 : List Iv := [⟨0, 1⟩, ⟨0, 4294967295⟩, ⟨0, 4294967295⟩, ⟨0, 4294967295⟩, ⟨0, 4294967295⟩, ⟨0, 4294967295⟩, ⟨0, 4294967295⟩]
def t70 : VC :=
 (.call 97 (.e (.var 0) (.e (.var 1) (.e (.var 2) (.e (.var 3) (.e (.var 4) (.e (.var 5) (.e (.var 6) .nil))))))) 1
 (.bind (.ite (.eq (.var 7) (.lit 1)) (.lit (-1)) (.lit 0))
 (.call 98 (.e (.var 0) (.e (.var 1) (.e (.var 2) (.e (.var 3) (.e (.var 4) (.e (.var 5) (.e (.var 6) .nil))))))) 1
 (.bind (.ite (.eq (.var 9) (.lit 1)) (.lit 0) (.var 8))
 (.call 99 (.e (.var 0) (.e (.var 1) (.e (.var 2) (.e (.var 3) (.e (.var 4) (.e (.var 5) (.e (.var 6) .nil))))))) 1
 (.bind (.ite (.eq (.var 11) (.lit 1)) (.lit 1) (.var 10))
 (.fin (.e (.var 12) .nil))))))))
theorem v70 : vcOfI ⟨c70, []⟩ iv70 250 Try.f70 s70 = t70 := by kernel_rfl
set_option linter.unusedVariables false in
def p70 (T : Tab) (I : Nat → List Int → List Int → Prop) (M : Nat → List Int → List Int → Nat) (pre : Nat → List Int → Prop) (post : List Int → Prop) (v0 v1 v2 v3 v4 v5 v6 : Int) : Prop :=
 ∀ v7 : Int, [v7] = T.out 97 1 [v0, v1, v2, v3, v4, v5, v6] →
 ∀ v8 : Int, v8 = (if decide ((v7 : Int) = 1) = true then (-1) else 0) →
 ∀ v9 : Int, [v9] = T.out 98 1 [v0, v1, v2, v3, v4, v5, v6] →
 ∀ v10 : Int, v10 = (if decide ((v9 : Int) = 1) = true then 0 else v8) →
 ∀ v11 : Int, [v11] = T.out 99 1 [v0, v1, v2, v3, v4, v5, v6] →
 ∀ v12 : Int, v12 = (if decide ((v11 : Int) = 1) = true then 1 else v10) →
 post [v12]
theorem q70 (T : Tab) (I : Nat → List Int → List Int → Prop) (M : Nat → List Int → List Int → Nat) (pre : Nat → List Int → Prop) (post : List Int → Prop) (v0 v1 v2 v3 v4 v5 v6 : Int) : t70.plain T (presL pre I M) post ⟨[v0, v1, v2, v3, v4, v5, v6], []⟩ = p70 T I M pre post v0 v1 v2 v3 v4 v5 v6 := by kernel_rfl
theorem k70 (T : Tab) (I : Nat → List Int → List Int → Prop) (M : Nat → List Int → List Int → Nat) (pre : Nat → List Int → Prop) (hs : SubSig T c70.sigs) (ht : Tot pre c70.sigs) (hg : T.sig 70 = some s70) (hC : CtAll Try.prog T.fns (pres pre) c70.sigs)
    (h : ∀ (v0 v1 v2 v3 v4 v5 v6 : Int), (0 ≤ v0 ∧ v0 ≤ 1) → (0 ≤ v1 ∧ v1 ≤ 4294967295) → (0 ≤ v2 ∧ v2 ≤ 4294967295) → (0 ≤ v3 ∧ v3 ≤ 4294967295) → (0 ≤ v4 ∧ v4 ≤ 4294967295) → (0 ≤ v5 ∧ v5 ≤ 4294967295) → (0 ≤ v6 ∧ v6 ≤ 4294967295) → pre 70 [v0, v1, v2, v3, v4, v5, v6] → p70 T I M pre (fun ys => ys = T.fn 70 [v0, v1, v2, v3, v4, v5, v6]) v0 v1 v2 v3 v4 v5 v6) : CT Try.prog T.fns (pres pre) 70 s70 :=
  T.ctq (F := ⟨c70, []⟩) (fuel := 250) v70 Try.checked.mixed hs ht hg hC Try.func70 I M (fun _ h _ => h) fun xs hx hp => by
    match xs, hx, hp with
    | [v0, v1, v2, v3, v4, v5, v6], hx, hp => rw [q70]; exact h v0 v1 v2 v3 v4 v5 v6 hx.1 hx.2.1 hx.2.2.1 hx.2.2.2.1 hx.2.2.2.2.1 hx.2.2.2.2.2.1 hx.2.2.2.2.2.2.1 hp

/-- (loop.example/g01242/impl.Wide).isNegative -/
noncomputable def c97 : Cfg := ⟨Try.prog, []⟩
def iv97 : List Iv := [⟨0, 1⟩, ⟨0, 4294967295⟩, ⟨0, 4294967295⟩, ⟨0, 4294967295⟩, ⟨0, 4294967295⟩, ⟨0, 4294967295⟩, ⟨0, 4294967295⟩]
def t97 : VC :=
 (.fin (.e (.var 0) .nil))
theorem v97 : vcOfI ⟨c97, []⟩ iv97 250 Try.f97 s97 = t97 := by kernel_rfl
set_option linter.unusedVariables false in
def p97 (T : Tab) (I : Nat → List Int → List Int → Prop) (M : Nat → List Int → List Int → Nat) (pre : Nat → List Int → Prop) (post : List Int → Prop) (v0 v1 v2 v3 v4 v5 v6 : Int) : Prop :=
 post [v0]
theorem q97 (T : Tab) (I : Nat → List Int → List Int → Prop) (M : Nat → List Int → List Int → Nat) (pre : Nat → List Int → Prop) (post : List Int → Prop) (v0 v1 v2 v3 v4 v5 v6 : Int) : t97.plain T (presL pre I M) post ⟨[v0, v1, v2, v3, v4, v5, v6], []⟩ = p97 T I M pre post v0 v1 v2 v3 v4 v5 v6 := by kernel_rfl
theorem k97 (T : Tab) (I : Nat → List Int → List Int → Prop) (M : Nat → List Int → List Int → Nat) (pre : Nat → List Int → Prop) (hs : SubSig T c97.sigs) (ht : Tot pre c97.sigs) (hg : T.sig 97 = some s97) (hC : CtAll Try.prog T.fns (pres pre) c97.sigs)
    (h : ∀ (v0 v1 v2 v3 v4 v5 v6 : Int), (0 ≤ v0 ∧ v0 ≤ 1) → (0 ≤ v1 ∧ v1 ≤ 4294967295) → (0 ≤ v2 ∧ v2 ≤ 4294967295) → (0 ≤ v3 ∧ v3 ≤ 4294967295) → (0 ≤ v4 ∧ v4 ≤ 4294967295) → (0 ≤ v5 ∧ v5 ≤ 4294967295) → (0 ≤ v6 ∧ v6 ≤ 4294967295) → pre 97 [v0, v1, v2, v3, v4, v5, v6] → p97 T I M pre (fun ys => ys = T.fn 97 [v0, v1, v2, v3, v4, v5, v6]) v0 v1 v2 v3 v4 v5 v6) : CT Try.prog T.fns (pres pre) 97 s97 :=
  T.ctq (F := ⟨c97, []⟩) (fuel := 250) v97 Try.checked.mixed hs ht hg hC Try.func97 I M (fun _ h _ => h) fun xs hx hp => by
    match xs, hx, hp with
    | [v0, v1, v2, v3, v4, v5, v6], hx, hp => rw [q97]; exact h v0 v1 v2 v3 v4 v5 v6 hx.1 hx.2.1 hx.2.2.1 hx.2.2.2.1 hx.2.2.2.2.1 hx.2.2.2.2.2.1 hx.2.2.2.2.2.2.1 hp

/-- (loop.example/g01242/impl.Wide).isZero -/
noncomputable def c98 : Cfg := ⟨Try.prog, []⟩
def iv98 : List Iv := [⟨0, 1⟩, ⟨0, 4294967295⟩, ⟨0, 4294967295⟩, ⟨0, 4294967295⟩, ⟨0, 4294967295⟩, ⟨0, 4294967295⟩, ⟨0, 4294967295⟩]
def t98 : VC :=
 (.bind (.ite (.and (.not (.eq (.var 0) (.lit 1))) (.and (.eq (.var 1) (.lit 0)) (.and (.eq (.var 2) (.lit 0)) (.and (.eq (.var 3) (.lit 0)) (.and (.eq (.var 4) (.lit 0)) (.and (.eq (.var 5) (.lit 0)) (.eq (.var 6) (.lit 0)))))))) (.lit 1) (.lit 0))
 (.fin (.e (.var 7) .nil)))
theorem v98 : vcOfI ⟨c98, []⟩ iv98 250 Try.f98 s98 = t98 := by kernel_rfl
set_option linter.unusedVariables false in
def p98 (T : Tab) (I : Nat → List Int → List Int → Prop) (M : Nat → List Int → List Int → Nat) (pre : Nat → List Int → Prop) (post : List Int → Prop) (v0 v1 v2 v3 v4 v5 v6 : Int) : Prop :=
 ∀ v7 : Int, v7 = (if ((!decide ((v0 : Int) = 1)) && (decide ((v1 : Int) = 0) && (decide ((v2 : Int) = 0) && (decide ((v3 : Int) = 0) && (decide ((v4 : Int) = 0) && (decide ((v5 : Int) = 0) && decide ((v6 : Int) = 0))))))) = true then 1 else 0) →
 post [v7]
theorem q98 (T : Tab) (I : Nat → List Int → List Int → Prop) (M : Nat → List Int → List Int → Nat) (pre : Nat → List Int → Prop) (post : List Int → Prop) (v0 v1 v2 v3 v4 v5 v6 : Int) : t98.plain T (presL pre I M) post ⟨[v0, v1, v2, v3, v4, v5, v6], []⟩ = p98 T I M pre post v0 v1 v2 v3 v4 v5 v6 := by kernel_rfl
theorem k98 (T : Tab) (I : Nat → List Int → List Int → Prop) (M : Nat → List Int → List Int → Nat) (pre : Nat → List Int → Prop) (hs : SubSig T c98.sigs) (ht : Tot pre c98.sigs) (hg : T.sig 98 = some s98) (hC : CtAll Try.prog T.fns (pres pre) c98.sigs)
    (h : ∀ (v0 v1 v2 v3 v4 v5 v6 : Int), (0 ≤ v0 ∧ v0 ≤ 1) → (0 ≤ v1 ∧ v1 ≤ 4294967295) → (0 ≤ v2 ∧ v2 ≤ 4294967295) → (0 ≤ v3 ∧ v3 ≤ 4294967295) → (0 ≤ v4 ∧ v4 ≤ 4294967295) → (0 ≤ v5 ∧ v5 ≤ 4294967295) → (0 ≤ v6 ∧ v6 ≤ 4294967295) → pre 98 [v0, v1, v2, v3, v4, v5, v6] → p98 T I M pre (fun ys => ys = T.fn 98 [v0, v1, v2, v3, v4, v5, v6]) v0 v1 v2 v3 v4 v5 v6) : CT Try.prog T.fns (pres pre) 98 s98 :=
  T.ctq (F := ⟨c98, []⟩) (fuel := 250) v98 Try.checked.mixed hs ht hg hC Try.func98 I M (fun _ h _ => h) fun xs hx hp => by
    match xs, hx, hp with
    | [v0, v1, v2, v3, v4, v5, v6], hx, hp => rw [q98]; exact h v0 v1 v2 v3 v4 v5 v6 hx.1 hx.2.1 hx.2.2.1 hx.2.2.2.1 hx.2.2.2.2.1 hx.2.2.2.2.2.1 hx.2.2.2.2.2.2.1 hp

/-- (loop.example/g01242/impl.Wide).isPositive -/
noncomputable def c99 : Cfg := ⟨Try.prog, [(97, s97), (98, s98)]⟩
def iv99 : List Iv := [⟨0, 1⟩, ⟨0, 4294967295⟩, ⟨0, 4294967295⟩, ⟨0, 4294967295⟩, ⟨0, 4294967295⟩, ⟨0, 4294967295⟩, ⟨0, 4294967295⟩]
def t99 : VC :=
 (.call 97 (.e (.var 0) (.e (.var 1) (.e (.var 2) (.e (.var 3) (.e (.var 4) (.e (.var 5) (.e (.var 6) .nil))))))) 1
 (.ite (.not (.eq (.var 7) (.lit 1)))
  (.call 98 (.e (.var 0) (.e (.var 1) (.e (.var 2) (.e (.var 3) (.e (.var 4) (.e (.var 5) (.e (.var 6) .nil))))))) 1
  (.fin (.e (.ite (.not (.eq (.var 8) (.lit 1))) (.lit 1) (.lit 0)) .nil)))
  (.fin (.e (.lit 0) .nil))))
theorem v99 : vcOfI ⟨c99, []⟩ iv99 250 Try.f99 s99 = t99 := by kernel_rfl
set_option linter.unusedVariables false in
def p99 (T : Tab) (I : Nat → List Int → List Int → Prop) (M : Nat → List Int → List Int → Nat) (pre : Nat → List Int → Prop) (post : List Int → Prop) (v0 v1 v2 v3 v4 v5 v6 : Int) : Prop :=
 ∀ v7 : Int, [v7] = T.out 97 1 [v0, v1, v2, v3, v4, v5, v6] →
 (((!decide ((v7 : Int) = 1)) = true →
  ∀ v8 : Int, [v8] = T.out 98 1 [v0, v1, v2, v3, v4, v5, v6] →
  post [(if (!decide ((v8 : Int) = 1)) = true then 1 else 0)]) ∧ ((!decide ((v7 : Int) = 1)) = false →
  post [0]))
theorem q99 (T : Tab) (I : Nat → List Int → List Int → Prop) (M : Nat → List Int → List Int → Nat) (pre : Nat → List Int → Prop) (post : List Int → Prop) (v0 v1 v2 v3 v4 v5 v6 : Int) : t99.plain T (presL pre I M) post ⟨[v0, v1, v2, v3, v4, v5, v6], []⟩ = p99 T I M pre post v0 v1 v2 v3 v4 v5 v6 := by kernel_rfl
theorem k99 (T : Tab) (I : Nat → List Int → List Int → Prop) (M : Nat → List Int → List Int → Nat) (pre : Nat → List Int → Prop) (hs : SubSig T c99.sigs) (ht : Tot pre c99.sigs) (hg : T.sig 99 = some s99) (hC : CtAll Try.prog T.fns (pres pre) c99.sigs)
    (h : ∀ (v0 v1 v2 v3 v4 v5 v6 : Int), (0 ≤ v0 ∧ v0 ≤ 1) → (0 ≤ v1 ∧ v1 ≤ 4294967295) → (0 ≤ v2 ∧ v2 ≤ 4294967295) → (0 ≤ v3 ∧ v3 ≤ 4294967295) → (0 ≤ v4 ∧ v4 ≤ 4294967295) → (0 ≤ v5 ∧ v5 ≤ 4294967295) → (0 ≤ v6 ∧ v6 ≤ 4294967295) → pre 99 [v0, v1, v2, v3, v4, v5, v6] → p99 T I M pre (fun ys => ys = T.fn 99 [v0, v1, v2, v3, v4, v5, v6]) v0 v1 v2 v3 v4 v5 v6) : CT Try.prog T.fns (pres pre) 99 s99 :=
  T.ctq (F := ⟨c99, []⟩) (fuel := 250) v99 Try.checked.mixed hs ht hg hC Try.func99 I M (fun _ h _ => h) fun xs hx hp => by
    match xs, hx, hp with
    | [v0, v1, v2, v3, v4, v5, v6], hx, hp => rw [q99]; exact h v0 v1 v2 v3 v4 v5 v6 hx.1 hx.2.1 hx.2.2.1 hx.2.2.2.1 hx.2.2.2.2.1 hx.2.2.2.2.2.1 hx.2.2.2.2.2.2.1 hp

end Go.Proofs.Ytppbanmlifikpaa.Sx
