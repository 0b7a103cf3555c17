/-
  What the symbolic executor asks of these functions, written out by a program of mine, and that it asks just this.
-/
import Derived.Test.YtaknnjlkpepgaaaW2s
import Derived.Test.YtaknnjlkpepgaaaChecked
import Derived.KernelRfl
namespace Go.Proofs.Ytaknnjlkpepgaaa.Sx
open Go Go.RowKit
/-- loop.example/g01242/spec.ComposeMoebius -/
noncomputable def c32 : Cfg := ⟨Try.prog, [(65, s65), (69, s69), (70, s70), (71, s71), (72, s72)]⟩
def iv32 : List Iv := [⟨(-9223372036854775808), 9223372036854775807⟩, ⟨(-9223372036854775808), 9223372036854775807⟩, ⟨(-9223372036854775808), 9223372036854775807⟩, ⟨(-9223372036854775808), 9223372036854775807⟩, ⟨(-9223372036854775808), 9223372036854775807⟩, ⟨(-9223372036854775808), 9223372036854775807⟩, ⟨(-9223372036854775808), 9223372036854775807⟩, ⟨(-9223372036854775808), 9223372036854775807⟩]
def t32 : VC :=
 (.call 65 (.e (.var 0) (.e (.var 1) (.e (.var 2) (.e (.var 3) .nil)))) 1
 (.ite (.eq (.var 8) (.lit 1))
  (.call 65 (.e (.var 4) (.e (.var 5) (.e (.var 6) (.e (.var 7) .nil)))) 1
  (.ite (.not (.eq (.var 9) (.lit 1)))
   (.fin (.e (.lit 0) (.e (.lit 0) (.e (.lit 0) (.e (.lit 0) (.e (.lit 1) .nil))))))
   (.bind (.wrap .i64 (.add (.wrap .i64 (.mul (.var 0) (.var 4))) (.wrap .i64 (.mul (.var 1) (.var 6)))))
   (.bind (.wrap .i64 (.add (.wrap .i64 (.mul (.var 0) (.var 5))) (.wrap .i64 (.mul (.var 1) (.var 7)))))
   (.bind (.wrap .i64 (.add (.wrap .i64 (.mul (.var 2) (.var 4))) (.wrap .i64 (.mul (.var 3) (.var 6)))))
   (.bind (.wrap .i64 (.add (.wrap .i64 (.mul (.var 2) (.var 5))) (.wrap .i64 (.mul (.var 3) (.var 7)))))
   (.need [(.pre 69 (.e (.var 10) (.e (.var 11) (.e (.var 12) (.e (.var 13) .nil)))))]
   (.call 69 (.e (.var 10) (.e (.var 11) (.e (.var 12) (.e (.var 13) .nil)))) 1
   (.ite (.eq (.var 14) (.lit 0))
    (.fin (.e (.lit 0) (.e (.lit 0) (.e (.lit 0) (.e (.lit 0) (.e (.lit 4) .nil))))))
    (.need [(.pre 70 (.e (.var 10) (.e (.var 11) (.e (.var 12) (.e (.var 13) .nil)))))]
    (.call 70 (.e (.var 10) (.e (.var 11) (.e (.var 12) (.e (.var 13) .nil)))) 4
    (.ite (.lt (.var 18) (.lit 0))
     (.bind (.wrap .i64 (.sub (.lit 0) (.var 15)))
     (.bind (.wrap .i64 (.sub (.lit 0) (.var 16)))
     (.bind (.wrap .i64 (.sub (.lit 0) (.var 17)))
     (.bind (.wrap .i64 (.sub (.lit 0) (.var 18)))
     (.call 71 (.e (.var 21) .nil) 1
     (.ite (.le (.var 22) (.var 23))
      (.fin (.e (.lit 0) (.e (.lit 0) (.e (.lit 0) (.e (.lit 0) (.e (.lit 4) .nil))))))
      (.call 72 (.e (.var 19) (.e (.var 20) (.e (.var 21) (.e (.var 22) (.e (.lit 1000000) .nil))))) 1
      (.ite (.not (.eq (.var 24) (.lit 1)))
       (.fin (.e (.lit 0) (.e (.lit 0) (.e (.lit 0) (.e (.lit 0) (.e (.lit 3) .nil))))))
       (.fin (.e (.var 19) (.e (.var 20) (.e (.var 21) (.e (.var 22) (.e (.lit 0) .nil))))))))))))))
     (.call 71 (.e (.var 17) .nil) 1
     (.ite (.le (.var 18) (.var 19))
      (.fin (.e (.lit 0) (.e (.lit 0) (.e (.lit 0) (.e (.lit 0) (.e (.lit 4) .nil))))))
      (.call 72 (.e (.var 15) (.e (.var 16) (.e (.var 17) (.e (.var 18) (.e (.lit 1000000) .nil))))) 1
      (.ite (.not (.eq (.var 20) (.lit 1)))
       (.fin (.e (.lit 0) (.e (.lit 0) (.e (.lit 0) (.e (.lit 0) (.e (.lit 3) .nil))))))
       (.fin (.e (.var 15) (.e (.var 16) (.e (.var 17) (.e (.var 18) (.e (.lit 0) .nil))))))))))))))))))))))
  (.fin (.e (.lit 0) (.e (.lit 0) (.e (.lit 0) (.e (.lit 0) (.e (.lit 1) .nil))))))))
theorem vc32 : vcOfI ⟨c32, []⟩ iv32 250 Try.f32 s32 = t32 := by kernel_rfl
set_option linter.unusedVariables false in
def p32 (T : Tab) (I : Nat → List Int → List Int → Prop) (M : Nat → List Int → List Int → Nat) (pre : Nat → List Int → Prop) (post : List Int → Prop) (v0 v1 v2 v3 v4 v5 v6 v7 : Int) : Prop :=
 ∀ v8 : Int, [v8] = T.out 65 1 [v0, v1, v2, v3] →
 ((decide ((v8 : Int) = 1) = true →
  ∀ v9 : Int, [v9] = T.out 65 1 [v4, v5, v6, v7] →
  (((!decide ((v9 : Int) = 1)) = true →
   post [0, 0, 0, 0, 1]) ∧ ((!decide ((v9 : Int) = 1)) = false →
   ∀ v10 : Int, v10 = (IntKind.wrap .i64 ((IntKind.wrap .i64 (v0 * v4)) + (IntKind.wrap .i64 (v1 * v6)))) →
   ∀ v11 : Int, v11 = (IntKind.wrap .i64 ((IntKind.wrap .i64 (v0 * v5)) + (IntKind.wrap .i64 (v1 * v7)))) →
   ∀ v12 : Int, v12 = (IntKind.wrap .i64 ((IntKind.wrap .i64 (v2 * v4)) + (IntKind.wrap .i64 (v3 * v6)))) →
   ∀ v13 : Int, v13 = (IntKind.wrap .i64 ((IntKind.wrap .i64 (v2 * v5)) + (IntKind.wrap .i64 (v3 * v7)))) →
   ((pre 69 [v10, v11, v12, v13]) ∧ ((pre 69 [v10, v11, v12, v13]) →
   ∀ v14 : Int, [v14] = T.out 69 1 [v10, v11, v12, v13] →
   ((decide ((v14 : Int) = 0) = true →
    post [0, 0, 0, 0, 4]) ∧ (decide ((v14 : Int) = 0) = false →
    ((pre 70 [v10, v11, v12, v13]) ∧ ((pre 70 [v10, v11, v12, v13]) →
    ∀ v15 v16 v17 v18 : Int, [v15, v16, v17, v18] = T.out 70 4 [v10, v11, v12, v13] →
    ((decide ((v18 : Int) < 0) = true →
     ∀ v19 : Int, v19 = (IntKind.wrap .i64 (0 - v15)) →
     ∀ v20 : Int, v20 = (IntKind.wrap .i64 (0 - v16)) →
     ∀ v21 : Int, v21 = (IntKind.wrap .i64 (0 - v17)) →
     ∀ v22 : Int, v22 = (IntKind.wrap .i64 (0 - v18)) →
     ∀ v23 : Int, [v23] = T.out 71 1 [v21] →
     ((decide ((v22 : Int) ≤ v23) = true →
      post [0, 0, 0, 0, 4]) ∧ (decide ((v22 : Int) ≤ v23) = false →
      ∀ v24 : Int, [v24] = T.out 72 1 [v19, v20, v21, v22, 1000000] →
      (((!decide ((v24 : Int) = 1)) = true →
       post [0, 0, 0, 0, 3]) ∧ ((!decide ((v24 : Int) = 1)) = false →
       post [v19, v20, v21, v22, 0]))))) ∧ (decide ((v18 : Int) < 0) = false →
     ∀ v19 : Int, [v19] = T.out 71 1 [v17] →
     ((decide ((v18 : Int) ≤ v19) = true →
      post [0, 0, 0, 0, 4]) ∧ (decide ((v18 : Int) ≤ v19) = false →
      ∀ v20 : Int, [v20] = T.out 72 1 [v15, v16, v17, v18, 1000000] →
      (((!decide ((v20 : Int) = 1)) = true →
       post [0, 0, 0, 0, 3]) ∧ ((!decide ((v20 : Int) = 1)) = false →
       post [v15, v16, v17, v18, 0]))))))))))))))) ∧ (decide ((v8 : Int) = 1) = false →
  post [0, 0, 0, 0, 1]))
theorem q32 (T : Tab) (I : Nat → List Int → List Int → Prop) (M : Nat → List Int → List Int → Nat) (pre : Nat → List Int → Prop) (post : List Int → Prop) (v0 v1 v2 v3 v4 v5 v6 v7 : Int) : t32.plain T (presL pre I M) post ⟨[v0, v1, v2, v3, v4, v5, v6, v7], []⟩ = p32 T I M pre post v0 v1 v2 v3 v4 v5 v6 v7 := by kernel_rfl
theorem k32 (T : Tab) (I : Nat → List Int → List Int → Prop) (M : Nat → List Int → List Int → Nat) (pre : Nat → List Int → Prop) (hs : SubSig T c32.sigs) (ht : Tot pre c32.sigs) (hg : T.sig 32 = some s32) (hC : CtAll Try.prog T.fns (pres pre) c32.sigs)
    (h : ∀ (v0 v1 v2 v3 v4 v5 v6 v7 : Int), ((-9223372036854775808) ≤ v0 ∧ v0 ≤ 9223372036854775807) → ((-9223372036854775808) ≤ v1 ∧ v1 ≤ 9223372036854775807) → ((-9223372036854775808) ≤ v2 ∧ v2 ≤ 9223372036854775807) → ((-9223372036854775808) ≤ v3 ∧ v3 ≤ 9223372036854775807) → ((-9223372036854775808) ≤ v4 ∧ v4 ≤ 9223372036854775807) → ((-9223372036854775808) ≤ v5 ∧ v5 ≤ 9223372036854775807) → ((-9223372036854775808) ≤ v6 ∧ v6 ≤ 9223372036854775807) → ((-9223372036854775808) ≤ v7 ∧ v7 ≤ 9223372036854775807) → pre 32 [v0, v1, v2, v3, v4, v5, v6, v7] → p32 T I M pre (fun ys => ys = T.fn 32 [v0, v1, v2, v3, v4, v5, v6, v7]) v0 v1 v2 v3 v4 v5 v6 v7) : CT Try.prog T.fns (pres pre) 32 s32 :=
  T.ctq (F := ⟨c32, []⟩) (fuel := 250) vc32 Try.checked.mixed hs ht hg hC Try.func32 I M (fun _ h _ => h) fun xs hx hp => by
    match xs, hx, hp with
    | [v0, v1, v2, v3, v4, v5, v6, v7], hx, hp => rw [q32]; exact h v0 v1 v2 v3 v4 v5 v6 v7 hx.1 hx.2.1 hx.2.2.1 hx.2.2.2.1 hx.2.2.2.2.1 hx.2.2.2.2.2.1 hx.2.2.2.2.2.2.1 hx.2.2.2.2.2.2.2.1 hp

/-- loop.example/g01242/laws.toRatio -/
noncomputable def c18 : Cfg := ⟨Try.prog, []⟩
def iv18 : List Iv := [⟨(-9223372036854775808), 9223372036854775807⟩, ⟨(-9223372036854775808), 9223372036854775807⟩]
def t18 : VC :=
 (.fin (.e (.var 0) (.e (.var 1) .nil)))
theorem vc18 : vcOfI ⟨c18, []⟩ iv18 250 Try.f18 s18 = t18 := by kernel_rfl
set_option linter.unusedVariables false in
def p18 (T : Tab) (I : Nat → List Int → List Int → Prop) (M : Nat → List Int → List Int → Nat) (pre : Nat → List Int → Prop) (post : List Int → Prop) (v0 v1 : Int) : Prop :=
 post [v0, v1]
theorem q18 (T : Tab) (I : Nat → List Int → List Int → Prop) (M : Nat → List Int → List Int → Nat) (pre : Nat → List Int → Prop) (post : List Int → Prop) (v0 v1 : Int) : t18.plain T (presL pre I M) post ⟨[v0, v1], []⟩ = p18 T I M pre post v0 v1 := by kernel_rfl
theorem k18 (T : Tab) (I : Nat → List Int → List Int → Prop) (M : Nat → List Int → List Int → Nat) (pre : Nat → List Int → Prop) (hs : SubSig T c18.sigs) (ht : Tot pre c18.sigs) (hg : T.sig 18 = some s18) (hC : CtAll Try.prog T.fns (pres pre) c18.sigs)
    (h : ∀ (v0 v1 : Int), ((-9223372036854775808) ≤ v0 ∧ v0 ≤ 9223372036854775807) → ((-9223372036854775808) ≤ v1 ∧ v1 ≤ 9223372036854775807) → pre 18 [v0, v1] → p18 T I M pre (fun ys => ys = T.fn 18 [v0, v1]) v0 v1) : CT Try.prog T.fns (pres pre) 18 s18 :=
  T.ctq (F := ⟨c18, []⟩) (fuel := 250) vc18 Try.checked.mixed hs ht hg hC Try.func18 I M (fun _ h _ => h) fun xs hx hp => by
    match xs, hx, hp with
    | [v0, v1], hx, hp => rw [q18]; exact h v0 v1 hx.1 hx.2.1 hp

/-- loop.example/g01242/laws.eqRatio -/
noncomputable def c22 : Cfg := ⟨Try.prog, []⟩
def iv22 : List Iv := [⟨(-9223372036854775808), 9223372036854775807⟩, ⟨(-9223372036854775808), 9223372036854775807⟩, ⟨(-9223372036854775808), 9223372036854775807⟩, ⟨(-9223372036854775808), 9223372036854775807⟩]
def t22 : VC :=
 (.ite (.not (.eq (.var 0) (.var 2)))
  (.fin (.e (.lit 0) .nil))
  (.ite (.not (.eq (.var 1) (.var 3)))
   (.fin (.e (.lit 0) .nil))
   (.fin (.e (.lit 1) .nil))))
theorem vc22 : vcOfI ⟨c22, []⟩ iv22 250 Try.f22 s22 = t22 := by kernel_rfl
set_option linter.unusedVariables false in
def p22 (T : Tab) (I : Nat → List Int → List Int → Prop) (M : Nat → List Int → List Int → Nat) (pre : Nat → List Int → Prop) (post : List Int → Prop) (v0 v1 v2 v3 : Int) : Prop :=
 (((!decide ((v0 : Int) = v2)) = true →
  post [0]) ∧ ((!decide ((v0 : Int) = v2)) = false →
  (((!decide ((v1 : Int) = v3)) = true →
   post [0]) ∧ ((!decide ((v1 : Int) = v3)) = false →
   post [1]))))
theorem q22 (T : Tab) (I : Nat → List Int → List Int → Prop) (M : Nat → List Int → List Int → Nat) (pre : Nat → List Int → Prop) (post : List Int → Prop) (v0 v1 v2 v3 : Int) : t22.plain T (presL pre I M) post ⟨[v0, v1, v2, v3], []⟩ = p22 T I M pre post v0 v1 v2 v3 := by kernel_rfl
theorem k22 (T : Tab) (I : Nat → List Int → List Int → Prop) (M : Nat → List Int → List Int → Nat) (pre : Nat → List Int → Prop) (hs : SubSig T c22.sigs) (ht : Tot pre c22.sigs) (hg : T.sig 22 = some s22) (hC : CtAll Try.prog T.fns (pres pre) c22.sigs)
    (h : ∀ (v0 v1 v2 v3 : Int), ((-9223372036854775808) ≤ v0 ∧ v0 ≤ 9223372036854775807) → ((-9223372036854775808) ≤ v1 ∧ v1 ≤ 9223372036854775807) → ((-9223372036854775808) ≤ v2 ∧ v2 ≤ 9223372036854775807) → ((-9223372036854775808) ≤ v3 ∧ v3 ≤ 9223372036854775807) → pre 22 [v0, v1, v2, v3] → p22 T I M pre (fun ys => ys = T.fn 22 [v0, v1, v2, v3]) v0 v1 v2 v3) : CT Try.prog T.fns (pres pre) 22 s22 :=
  T.ctq (F := ⟨c22, []⟩) (fuel := 250) vc22 Try.checked.mixed hs ht hg hC Try.func22 I M (fun _ h _ => h) fun xs hx hp => by
    match xs, hx, hp with
    | [v0, v1, v2, v3], hx, hp => rw [q22]; exact h v0 v1 v2 v3 hx.1 hx.2.1 hx.2.2.1 hx.2.2.2.1 hp

/-- loop.example/g01242/laws.toMoebius -/
noncomputable def c26 : Cfg := ⟨Try.prog, []⟩
def iv26 : List Iv := [⟨(-9223372036854775808), 9223372036854775807⟩, ⟨(-9223372036854775808), 9223372036854775807⟩, ⟨(-9223372036854775808), 9223372036854775807⟩, ⟨(-9223372036854775808), 9223372036854775807⟩]
def t26 : VC :=
 (.fin (.e (.var 0) (.e (.var 1) (.e (.var 2) (.e (.var 3) .nil)))))
theorem vc26 : vcOfI ⟨c26, []⟩ iv26 250 Try.f26 s26 = t26 := by kernel_rfl
set_option linter.unusedVariables false in
def p26 (T : Tab) (I : Nat → List Int → List Int → Prop) (M : Nat → List Int → List Int → Nat) (pre : Nat → List Int → Prop) (post : List Int → Prop) (v0 v1 v2 v3 : Int) : Prop :=
 post [v0, v1, v2, v3]
theorem q26 (T : Tab) (I : Nat → List Int → List Int → Prop) (M : Nat → List Int → List Int → Nat) (pre : Nat → List Int → Prop) (post : List Int → Prop) (v0 v1 v2 v3 : Int) : t26.plain T (presL pre I M) post ⟨[v0, v1, v2, v3], []⟩ = p26 T I M pre post v0 v1 v2 v3 := by kernel_rfl
theorem k26 (T : Tab) (I : Nat → List Int → List Int → Prop) (M : Nat → List Int → List Int → Nat) (pre : Nat → List Int → Prop) (hs : SubSig T c26.sigs) (ht : Tot pre c26.sigs) (hg : T.sig 26 = some s26) (hC : CtAll Try.prog T.fns (pres pre) c26.sigs)
    (h : ∀ (v0 v1 v2 v3 : Int), ((-9223372036854775808) ≤ v0 ∧ v0 ≤ 9223372036854775807) → ((-9223372036854775808) ≤ v1 ∧ v1 ≤ 9223372036854775807) → ((-9223372036854775808) ≤ v2 ∧ v2 ≤ 9223372036854775807) → ((-9223372036854775808) ≤ v3 ∧ v3 ≤ 9223372036854775807) → pre 26 [v0, v1, v2, v3] → p26 T I M pre (fun ys => ys = T.fn 26 [v0, v1, v2, v3]) v0 v1 v2 v3) : CT Try.prog T.fns (pres pre) 26 s26 :=
  T.ctq (F := ⟨c26, []⟩) (fuel := 250) vc26 Try.checked.mixed hs ht hg hC Try.func26 I M (fun _ h _ => h) fun xs hx hp => by
    match xs, hx, hp with
    | [v0, v1, v2, v3], hx, hp => rw [q26]; exact h v0 v1 v2 v3 hx.1 hx.2.1 hx.2.2.1 hx.2.2.2.1 hp

/-- loop.example/g01242/laws.eqMoebius -/
noncomputable def c34 : Cfg := ⟨Try.prog, []⟩
def iv34 : List Iv := [⟨(-9223372036854775808), 9223372036854775807⟩, ⟨(-9223372036854775808), 9223372036854775807⟩, ⟨(-9223372036854775808), 9223372036854775807⟩, ⟨(-9223372036854775808), 9223372036854775807⟩, ⟨(-9223372036854775808), 9223372036854775807⟩, ⟨(-9223372036854775808), 9223372036854775807⟩, ⟨(-9223372036854775808), 9223372036854775807⟩, ⟨(-9223372036854775808), 9223372036854775807⟩]
def t34 : VC :=
 (.ite (.not (.eq (.var 0) (.var 4)))
  (.fin (.e (.lit 0) .nil))
  (.ite (.not (.eq (.var 1) (.var 5)))
   (.fin (.e (.lit 0) .nil))
   (.ite (.not (.eq (.var 2) (.var 6)))
    (.fin (.e (.lit 0) .nil))
    (.ite (.not (.eq (.var 3) (.var 7)))
     (.fin (.e (.lit 0) .nil))
     (.fin (.e (.lit 1) .nil))))))
theorem vc34 : vcOfI ⟨c34, []⟩ iv34 250 Try.f34 s34 = t34 := by kernel_rfl
set_option linter.unusedVariables false in
def p34 (T : Tab) (I : Nat → List Int → List Int → Prop) (M : Nat → List Int → List Int → Nat) (pre : Nat → List Int → Prop) (post : List Int → Prop) (v0 v1 v2 v3 v4 v5 v6 v7 : Int) : Prop :=
 (((!decide ((v0 : Int) = v4)) = true →
  post [0]) ∧ ((!decide ((v0 : Int) = v4)) = false →
  (((!decide ((v1 : Int) = v5)) = true →
   post [0]) ∧ ((!decide ((v1 : Int) = v5)) = false →
   (((!decide ((v2 : Int) = v6)) = true →
    post [0]) ∧ ((!decide ((v2 : Int) = v6)) = false →
    (((!decide ((v3 : Int) = v7)) = true →
     post [0]) ∧ ((!decide ((v3 : Int) = v7)) = false →
     post [1]))))))))
theorem q34 (T : Tab) (I : Nat → List Int → List Int → Prop) (M : Nat → List Int → List Int → Nat) (pre : Nat → List Int → Prop) (post : List Int → Prop) (v0 v1 v2 v3 v4 v5 v6 v7 : Int) : t34.plain T (presL pre I M) post ⟨[v0, v1, v2, v3, v4, v5, v6, v7], []⟩ = p34 T I M pre post v0 v1 v2 v3 v4 v5 v6 v7 := by kernel_rfl
theorem k34 (T : Tab) (I : Nat → List Int → List Int → Prop) (M : Nat → List Int → List Int → Nat) (pre : Nat → List Int → Prop) (hs : SubSig T c34.sigs) (ht : Tot pre c34.sigs) (hg : T.sig 34 = some s34) (hC : CtAll Try.prog T.fns (pres pre) c34.sigs)
    (h : ∀ (v0 v1 v2 v3 v4 v5 v6 v7 : Int), ((-9223372036854775808) ≤ v0 ∧ v0 ≤ 9223372036854775807) → ((-9223372036854775808) ≤ v1 ∧ v1 ≤ 9223372036854775807) → ((-9223372036854775808) ≤ v2 ∧ v2 ≤ 9223372036854775807) → ((-9223372036854775808) ≤ v3 ∧ v3 ≤ 9223372036854775807) → ((-9223372036854775808) ≤ v4 ∧ v4 ≤ 9223372036854775807) → ((-9223372036854775808) ≤ v5 ∧ v5 ≤ 9223372036854775807) → ((-9223372036854775808) ≤ v6 ∧ v6 ≤ 9223372036854775807) → ((-9223372036854775808) ≤ v7 ∧ v7 ≤ 9223372036854775807) → pre 34 [v0, v1, v2, v3, v4, v5, v6, v7] → p34 T I M pre (fun ys => ys = T.fn 34 [v0, v1, v2, v3, v4, v5, v6, v7]) v0 v1 v2 v3 v4 v5 v6 v7) : CT Try.prog T.fns (pres pre) 34 s34 :=
  T.ctq (F := ⟨c34, []⟩) (fuel := 250) vc34 Try.checked.mixed hs ht hg hC Try.func34 I M (fun _ h _ => h) fun xs hx hp => by
    match xs, hx, hp with
    | [v0, v1, v2, v3, v4, v5, v6, v7], hx, hp => rw [q34]; exact h v0 v1 v2 v3 v4 v5 v6 v7 hx.1 hx.2.1 hx.2.2.1 hx.2.2.2.1 hx.2.2.2.2.1 hx.2.2.2.2.2.1 hx.2.2.2.2.2.2.1 hx.2.2.2.2.2.2.2.1 hp

/-- loop.example/g01242/laws.FnExactValidRatio -/
noncomputable def c3 : Cfg := ⟨Try.prog, [(18, s18), (17, s17), (19, s19)]⟩
def iv3 : List Iv := [⟨(-9223372036854775808), 9223372036854775807⟩, ⟨(-9223372036854775808), 9223372036854775807⟩]
def t3 : VC :=
 (.call 18 (.e (.var 0) (.e (.var 1) .nil)) 2
 (.call 17 (.e (.var 2) (.e (.var 3) .nil)) 1
 (.call 18 (.e (.var 0) (.e (.var 1) .nil)) 2
 (.call 19 (.e (.var 5) (.e (.var 6) .nil)) 1
 (.ite (.not (.beq (.eq (.var 7) (.lit 1)) (.eq (.var 4) (.lit 1))))
  (.fin (.e (.lit 0) .nil))
  (.fin (.e (.lit 1) .nil)))))))
theorem vc3 : vcOfI ⟨c3, []⟩ iv3 250 Try.f3 s3 = t3 := by kernel_rfl
set_option linter.unusedVariables false in
def p3 (T : Tab) (I : Nat → List Int → List Int → Prop) (M : Nat → List Int → List Int → Nat) (pre : Nat → List Int → Prop) (post : List Int → Prop) (v0 v1 : Int) : Prop :=
 ∀ v2 v3 : Int, [v2, v3] = T.out 18 2 [v0, v1] →
 ∀ v4 : Int, [v4] = T.out 17 1 [v2, v3] →
 ∀ v5 v6 : Int, [v5, v6] = T.out 18 2 [v0, v1] →
 ∀ v7 : Int, [v7] = T.out 19 1 [v5, v6] →
 (((!(decide ((v7 : Int) = 1) == decide ((v4 : Int) = 1))) = true →
  post [0]) ∧ ((!(decide ((v7 : Int) = 1) == decide ((v4 : Int) = 1))) = false →
  post [1]))
theorem q3 (T : Tab) (I : Nat → List Int → List Int → Prop) (M : Nat → List Int → List Int → Nat) (pre : Nat → List Int → Prop) (post : List Int → Prop) (v0 v1 : Int) : t3.plain T (presL pre I M) post ⟨[v0, v1], []⟩ = p3 T I M pre post v0 v1 := by kernel_rfl
theorem k3 (T : Tab) (I : Nat → List Int → List Int → Prop) (M : Nat → List Int → List Int → Nat) (pre : Nat → List Int → Prop) (hs : SubSig T c3.sigs) (ht : Tot pre c3.sigs) (hg : T.sig 3 = some s3) (hC : CtAll Try.prog T.fns (pres pre) c3.sigs)
    (h : ∀ (v0 v1 : Int), ((-9223372036854775808) ≤ v0 ∧ v0 ≤ 9223372036854775807) → ((-9223372036854775808) ≤ v1 ∧ v1 ≤ 9223372036854775807) → pre 3 [v0, v1] → p3 T I M pre (fun ys => ys = T.fn 3 [v0, v1]) v0 v1) : CT Try.prog T.fns (pres pre) 3 s3 :=
  T.ctq (F := ⟨c3, []⟩) (fuel := 250) vc3 Try.checked.mixed hs ht hg hC Try.func3 I M (fun _ h _ => h) fun xs hx hp => by
    match xs, hx, hp with
    | [v0, v1], hx, hp => rw [q3]; exact h v0 v1 hx.1 hx.2.1 hp

/-- loop.example/g01242/laws.FnExactMakeRatio -/
noncomputable def c4 : Cfg := ⟨Try.prog, [(20, s20), (21, s21), (22, s22)]⟩
def iv4 : List Iv := [⟨(-9223372036854775808), 9223372036854775807⟩, ⟨(-9223372036854775808), 9223372036854775807⟩]
def t4 : VC :=
 (.call 20 (.e (.var 0) (.e (.var 1) .nil)) 3
 (.call 21 (.e (.var 0) (.e (.var 1) .nil)) 3
 (.call 22 (.e (.var 5) (.e (.var 6) (.e (.var 2) (.e (.var 3) .nil)))) 1
 (.ite (.eq (.var 8) (.lit 1))
  (.ite (.not (.eq (.var 7) (.var 4)))
   (.fin (.e (.lit 0) .nil))
   (.fin (.e (.lit 1) .nil)))
  (.fin (.e (.lit 0) .nil))))))
theorem vc4 : vcOfI ⟨c4, []⟩ iv4 250 Try.f4 s4 = t4 := by kernel_rfl
set_option linter.unusedVariables false in
def p4 (T : Tab) (I : Nat → List Int → List Int → Prop) (M : Nat → List Int → List Int → Nat) (pre : Nat → List Int → Prop) (post : List Int → Prop) (v0 v1 : Int) : Prop :=
 ∀ v2 v3 v4 : Int, [v2, v3, v4] = T.out 20 3 [v0, v1] →
 ∀ v5 v6 v7 : Int, [v5, v6, v7] = T.out 21 3 [v0, v1] →
 ∀ v8 : Int, [v8] = T.out 22 1 [v5, v6, v2, v3] →
 ((decide ((v8 : Int) = 1) = true →
  (((!decide ((v7 : Int) = v4)) = true →
   post [0]) ∧ ((!decide ((v7 : Int) = v4)) = false →
   post [1]))) ∧ (decide ((v8 : Int) = 1) = false →
  post [0]))
theorem q4 (T : Tab) (I : Nat → List Int → List Int → Prop) (M : Nat → List Int → List Int → Nat) (pre : Nat → List Int → Prop) (post : List Int → Prop) (v0 v1 : Int) : t4.plain T (presL pre I M) post ⟨[v0, v1], []⟩ = p4 T I M pre post v0 v1 := by kernel_rfl
theorem k4 (T : Tab) (I : Nat → List Int → List Int → Prop) (M : Nat → List Int → List Int → Nat) (pre : Nat → List Int → Prop) (hs : SubSig T c4.sigs) (ht : Tot pre c4.sigs) (hg : T.sig 4 = some s4) (hC : CtAll Try.prog T.fns (pres pre) c4.sigs)
    (h : ∀ (v0 v1 : Int), ((-9223372036854775808) ≤ v0 ∧ v0 ≤ 9223372036854775807) → ((-9223372036854775808) ≤ v1 ∧ v1 ≤ 9223372036854775807) → pre 4 [v0, v1] → p4 T I M pre (fun ys => ys = T.fn 4 [v0, v1]) v0 v1) : CT Try.prog T.fns (pres pre) 4 s4 :=
  T.ctq (F := ⟨c4, []⟩) (fuel := 250) vc4 Try.checked.mixed hs ht hg hC Try.func4 I M (fun _ h _ => h) fun xs hx hp => by
    match xs, hx, hp with
    | [v0, v1], hx, hp => rw [q4]; exact h v0 v1 hx.1 hx.2.1 hp

/-- loop.example/g01242/laws.FnExactCompareRatios -/
noncomputable def c5 : Cfg := ⟨Try.prog, [(18, s18), (23, s23), (24, s24)]⟩
def iv5 : List Iv := [⟨(-9223372036854775808), 9223372036854775807⟩, ⟨(-9223372036854775808), 9223372036854775807⟩, ⟨(-9223372036854775808), 9223372036854775807⟩, ⟨(-9223372036854775808), 9223372036854775807⟩]
def t5 : VC :=
 (.call 18 (.e (.var 0) (.e (.var 1) .nil)) 2
 (.call 18 (.e (.var 2) (.e (.var 3) .nil)) 2
 (.call 23 (.e (.var 4) (.e (.var 5) (.e (.var 6) (.e (.var 7) .nil)))) 2
 (.call 18 (.e (.var 0) (.e (.var 1) .nil)) 2
 (.call 18 (.e (.var 2) (.e (.var 3) .nil)) 2
 (.call 24 (.e (.var 10) (.e (.var 11) (.e (.var 12) (.e (.var 13) .nil)))) 2
 (.ite (.eq (.var 14) (.var 8))
  (.ite (.not (.eq (.var 15) (.var 9)))
   (.fin (.e (.lit 0) .nil))
   (.fin (.e (.lit 1) .nil)))
  (.fin (.e (.lit 0) .nil)))))))))
theorem vc5 : vcOfI ⟨c5, []⟩ iv5 250 Try.f5 s5 = t5 := by kernel_rfl
set_option linter.unusedVariables false in
def p5 (T : Tab) (I : Nat → List Int → List Int → Prop) (M : Nat → List Int → List Int → Nat) (pre : Nat → List Int → Prop) (post : List Int → Prop) (v0 v1 v2 v3 : Int) : Prop :=
 ∀ v4 v5 : Int, [v4, v5] = T.out 18 2 [v0, v1] →
 ∀ v6 v7 : Int, [v6, v7] = T.out 18 2 [v2, v3] →
 ∀ v8 v9 : Int, [v8, v9] = T.out 23 2 [v4, v5, v6, v7] →
 ∀ v10 v11 : Int, [v10, v11] = T.out 18 2 [v0, v1] →
 ∀ v12 v13 : Int, [v12, v13] = T.out 18 2 [v2, v3] →
 ∀ v14 v15 : Int, [v14, v15] = T.out 24 2 [v10, v11, v12, v13] →
 ((decide ((v14 : Int) = v8) = true →
  (((!decide ((v15 : Int) = v9)) = true →
   post [0]) ∧ ((!decide ((v15 : Int) = v9)) = false →
   post [1]))) ∧ (decide ((v14 : Int) = v8) = false →
  post [0]))
theorem q5 (T : Tab) (I : Nat → List Int → List Int → Prop) (M : Nat → List Int → List Int → Nat) (pre : Nat → List Int → Prop) (post : List Int → Prop) (v0 v1 v2 v3 : Int) : t5.plain T (presL pre I M) post ⟨[v0, v1, v2, v3], []⟩ = p5 T I M pre post v0 v1 v2 v3 := by kernel_rfl
theorem k5 (T : Tab) (I : Nat → List Int → List Int → Prop) (M : Nat → List Int → List Int → Nat) (pre : Nat → List Int → Prop) (hs : SubSig T c5.sigs) (ht : Tot pre c5.sigs) (hg : T.sig 5 = some s5) (hC : CtAll Try.prog T.fns (pres pre) c5.sigs)
    (h : ∀ (v0 v1 v2 v3 : Int), ((-9223372036854775808) ≤ v0 ∧ v0 ≤ 9223372036854775807) → ((-9223372036854775808) ≤ v1 ∧ v1 ≤ 9223372036854775807) → ((-9223372036854775808) ≤ v2 ∧ v2 ≤ 9223372036854775807) → ((-9223372036854775808) ≤ v3 ∧ v3 ≤ 9223372036854775807) → pre 5 [v0, v1, v2, v3] → p5 T I M pre (fun ys => ys = T.fn 5 [v0, v1, v2, v3]) v0 v1 v2 v3) : CT Try.prog T.fns (pres pre) 5 s5 :=
  T.ctq (F := ⟨c5, []⟩) (fuel := 250) vc5 Try.checked.mixed hs ht hg hC Try.func5 I M (fun _ h _ => h) fun xs hx hp => by
    match xs, hx, hp with
    | [v0, v1, v2, v3], hx, hp => rw [q5]; exact h v0 v1 v2 v3 hx.1 hx.2.1 hx.2.2.1 hx.2.2.2.1 hp

/-- loop.example/g01242/laws.FnExactValidMoebius -/
noncomputable def c6 : Cfg := ⟨Try.prog, [(26, s26), (25, s25), (27, s27)]⟩
def iv6 : List Iv := [⟨(-9223372036854775808), 9223372036854775807⟩, ⟨(-9223372036854775808), 9223372036854775807⟩, ⟨(-9223372036854775808), 9223372036854775807⟩, ⟨(-9223372036854775808), 9223372036854775807⟩]
def t6 : VC :=
 (.call 26 (.e (.var 0) (.e (.var 1) (.e (.var 2) (.e (.var 3) .nil)))) 4
 (.call 25 (.e (.var 4) (.e (.var 5) (.e (.var 6) (.e (.var 7) .nil)))) 1
 (.call 26 (.e (.var 0) (.e (.var 1) (.e (.var 2) (.e (.var 3) .nil)))) 4
 (.call 27 (.e (.var 9) (.e (.var 10) (.e (.var 11) (.e (.var 12) .nil)))) 1
 (.ite (.not (.beq (.eq (.var 13) (.lit 1)) (.eq (.var 8) (.lit 1))))
  (.fin (.e (.lit 0) .nil))
  (.fin (.e (.lit 1) .nil)))))))
theorem vc6 : vcOfI ⟨c6, []⟩ iv6 250 Try.f6 s6 = t6 := by kernel_rfl
set_option linter.unusedVariables false in
def p6 (T : Tab) (I : Nat → List Int → List Int → Prop) (M : Nat → List Int → List Int → Nat) (pre : Nat → List Int → Prop) (post : List Int → Prop) (v0 v1 v2 v3 : Int) : Prop :=
 ∀ v4 v5 v6 v7 : Int, [v4, v5, v6, v7] = T.out 26 4 [v0, v1, v2, v3] →
 ∀ v8 : Int, [v8] = T.out 25 1 [v4, v5, v6, v7] →
 ∀ v9 v10 v11 v12 : Int, [v9, v10, v11, v12] = T.out 26 4 [v0, v1, v2, v3] →
 ∀ v13 : Int, [v13] = T.out 27 1 [v9, v10, v11, v12] →
 (((!(decide ((v13 : Int) = 1) == decide ((v8 : Int) = 1))) = true →
  post [0]) ∧ ((!(decide ((v13 : Int) = 1) == decide ((v8 : Int) = 1))) = false →
  post [1]))
theorem q6 (T : Tab) (I : Nat → List Int → List Int → Prop) (M : Nat → List Int → List Int → Nat) (pre : Nat → List Int → Prop) (post : List Int → Prop) (v0 v1 v2 v3 : Int) : t6.plain T (presL pre I M) post ⟨[v0, v1, v2, v3], []⟩ = p6 T I M pre post v0 v1 v2 v3 := by kernel_rfl
theorem k6 (T : Tab) (I : Nat → List Int → List Int → Prop) (M : Nat → List Int → List Int → Nat) (pre : Nat → List Int → Prop) (hs : SubSig T c6.sigs) (ht : Tot pre c6.sigs) (hg : T.sig 6 = some s6) (hC : CtAll Try.prog T.fns (pres pre) c6.sigs)
    (h : ∀ (v0 v1 v2 v3 : Int), ((-9223372036854775808) ≤ v0 ∧ v0 ≤ 9223372036854775807) → ((-9223372036854775808) ≤ v1 ∧ v1 ≤ 9223372036854775807) → ((-9223372036854775808) ≤ v2 ∧ v2 ≤ 9223372036854775807) → ((-9223372036854775808) ≤ v3 ∧ v3 ≤ 9223372036854775807) → pre 6 [v0, v1, v2, v3] → p6 T I M pre (fun ys => ys = T.fn 6 [v0, v1, v2, v3]) v0 v1 v2 v3) : CT Try.prog T.fns (pres pre) 6 s6 :=
  T.ctq (F := ⟨c6, []⟩) (fuel := 250) vc6 Try.checked.mixed hs ht hg hC Try.func6 I M (fun _ h _ => h) fun xs hx hp => by
    match xs, hx, hp with
    | [v0, v1, v2, v3], hx, hp => rw [q6]; exact h v0 v1 v2 v3 hx.1 hx.2.1 hx.2.2.1 hx.2.2.2.1 hp

/-- loop.example/g01242/laws.FnExactApplyMoebius -/
noncomputable def c7 : Cfg := ⟨Try.prog, [(26, s26), (18, s18), (28, s28), (29, s29), (22, s22)]⟩
def iv7 : List Iv := [⟨(-9223372036854775808), 9223372036854775807⟩, ⟨(-9223372036854775808), 9223372036854775807⟩, ⟨(-9223372036854775808), 9223372036854775807⟩, ⟨(-9223372036854775808), 9223372036854775807⟩, ⟨(-9223372036854775808), 9223372036854775807⟩, ⟨(-9223372036854775808), 9223372036854775807⟩]
def t7 : VC :=
 (.call 26 (.e (.var 0) (.e (.var 1) (.e (.var 2) (.e (.var 3) .nil)))) 4
 (.call 18 (.e (.var 4) (.e (.var 5) .nil)) 2
 (.call 28 (.e (.var 6) (.e (.var 7) (.e (.var 8) (.e (.var 9) (.e (.var 10) (.e (.var 11) .nil)))))) 3
 (.call 26 (.e (.var 0) (.e (.var 1) (.e (.var 2) (.e (.var 3) .nil)))) 4
 (.call 18 (.e (.var 4) (.e (.var 5) .nil)) 2
 (.call 29 (.e (.var 15) (.e (.var 16) (.e (.var 17) (.e (.var 18) (.e (.var 19) (.e (.var 20) .nil)))))) 3
 (.call 22 (.e (.var 21) (.e (.var 22) (.e (.var 12) (.e (.var 13) .nil)))) 1
 (.ite (.eq (.var 24) (.lit 1))
  (.ite (.not (.eq (.var 23) (.var 14)))
   (.fin (.e (.lit 0) .nil))
   (.fin (.e (.lit 1) .nil)))
  (.fin (.e (.lit 0) .nil))))))))))
theorem vc7 : vcOfI ⟨c7, []⟩ iv7 250 Try.f7 s7 = t7 := by kernel_rfl
set_option linter.unusedVariables false in
def p7 (T : Tab) (I : Nat → List Int → List Int → Prop) (M : Nat → List Int → List Int → Nat) (pre : Nat → List Int → Prop) (post : List Int → Prop) (v0 v1 v2 v3 v4 v5 : Int) : Prop :=
 ∀ v6 v7 v8 v9 : Int, [v6, v7, v8, v9] = T.out 26 4 [v0, v1, v2, v3] →
 ∀ v10 v11 : Int, [v10, v11] = T.out 18 2 [v4, v5] →
 ∀ v12 v13 v14 : Int, [v12, v13, v14] = T.out 28 3 [v6, v7, v8, v9, v10, v11] →
 ∀ v15 v16 v17 v18 : Int, [v15, v16, v17, v18] = T.out 26 4 [v0, v1, v2, v3] →
 ∀ v19 v20 : Int, [v19, v20] = T.out 18 2 [v4, v5] →
 ∀ v21 v22 v23 : Int, [v21, v22, v23] = T.out 29 3 [v15, v16, v17, v18, v19, v20] →
 ∀ v24 : Int, [v24] = T.out 22 1 [v21, v22, v12, v13] →
 ((decide ((v24 : Int) = 1) = true →
  (((!decide ((v23 : Int) = v14)) = true →
   post [0]) ∧ ((!decide ((v23 : Int) = v14)) = false →
   post [1]))) ∧ (decide ((v24 : Int) = 1) = false →
  post [0]))
theorem q7 (T : Tab) (I : Nat → List Int → List Int → Prop) (M : Nat → List Int → List Int → Nat) (pre : Nat → List Int → Prop) (post : List Int → Prop) (v0 v1 v2 v3 v4 v5 : Int) : t7.plain T (presL pre I M) post ⟨[v0, v1, v2, v3, v4, v5], []⟩ = p7 T I M pre post v0 v1 v2 v3 v4 v5 := by kernel_rfl
theorem k7 (T : Tab) (I : Nat → List Int → List Int → Prop) (M : Nat → List Int → List Int → Nat) (pre : Nat → List Int → Prop) (hs : SubSig T c7.sigs) (ht : Tot pre c7.sigs) (hg : T.sig 7 = some s7) (hC : CtAll Try.prog T.fns (pres pre) c7.sigs)
    (h : ∀ (v0 v1 v2 v3 v4 v5 : Int), ((-9223372036854775808) ≤ v0 ∧ v0 ≤ 9223372036854775807) → ((-9223372036854775808) ≤ v1 ∧ v1 ≤ 9223372036854775807) → ((-9223372036854775808) ≤ v2 ∧ v2 ≤ 9223372036854775807) → ((-9223372036854775808) ≤ v3 ∧ v3 ≤ 9223372036854775807) → ((-9223372036854775808) ≤ v4 ∧ v4 ≤ 9223372036854775807) → ((-9223372036854775808) ≤ v5 ∧ v5 ≤ 9223372036854775807) → pre 7 [v0, v1, v2, v3, v4, v5] → p7 T I M pre (fun ys => ys = T.fn 7 [v0, v1, v2, v3, v4, v5]) v0 v1 v2 v3 v4 v5) : CT Try.prog T.fns (pres pre) 7 s7 :=
  T.ctq (F := ⟨c7, []⟩) (fuel := 250) vc7 Try.checked.mixed hs ht hg hC Try.func7 I M (fun _ h _ => h) fun xs hx hp => by
    match xs, hx, hp with
    | [v0, v1, v2, v3, v4, v5], hx, hp => rw [q7]; exact h v0 v1 v2 v3 v4 v5 hx.1 hx.2.1 hx.2.2.1 hx.2.2.2.1 hx.2.2.2.2.1 hx.2.2.2.2.2.1 hp

/-- loop.example/g01242/laws.FnExactImageOf -/
noncomputable def c8 : Cfg := ⟨Try.prog, [(26, s26), (30, s30), (31, s31), (22, s22)]⟩
def iv8 : List Iv := [⟨(-9223372036854775808), 9223372036854775807⟩, ⟨(-9223372036854775808), 9223372036854775807⟩, ⟨(-9223372036854775808), 9223372036854775807⟩, ⟨(-9223372036854775808), 9223372036854775807⟩]
def t8 : VC :=
 (.call 26 (.e (.var 0) (.e (.var 1) (.e (.var 2) (.e (.var 3) .nil)))) 4
 (.call 30 (.e (.var 4) (.e (.var 5) (.e (.var 6) (.e (.var 7) .nil)))) 5
 (.call 26 (.e (.var 0) (.e (.var 1) (.e (.var 2) (.e (.var 3) .nil)))) 4
 (.call 31 (.e (.var 13) (.e (.var 14) (.e (.var 15) (.e (.var 16) .nil)))) 5
 (.call 22 (.e (.var 17) (.e (.var 18) (.e (.var 8) (.e (.var 9) .nil)))) 1
 (.ite (.eq (.var 22) (.lit 1))
  (.call 22 (.e (.var 19) (.e (.var 20) (.e (.var 10) (.e (.var 11) .nil)))) 1
  (.ite (.eq (.var 23) (.lit 1))
   (.ite (.not (.eq (.var 21) (.var 12)))
    (.fin (.e (.lit 0) .nil))
    (.fin (.e (.lit 1) .nil)))
   (.fin (.e (.lit 0) .nil))))
  (.fin (.e (.lit 0) .nil))))))))
theorem vc8 : vcOfI ⟨c8, []⟩ iv8 250 Try.f8 s8 = t8 := by kernel_rfl
set_option linter.unusedVariables false in
def p8 (T : Tab) (I : Nat → List Int → List Int → Prop) (M : Nat → List Int → List Int → Nat) (pre : Nat → List Int → Prop) (post : List Int → Prop) (v0 v1 v2 v3 : Int) : Prop :=
 ∀ v4 v5 v6 v7 : Int, [v4, v5, v6, v7] = T.out 26 4 [v0, v1, v2, v3] →
 ∀ v8 v9 v10 v11 v12 : Int, [v8, v9, v10, v11, v12] = T.out 30 5 [v4, v5, v6, v7] →
 ∀ v13 v14 v15 v16 : Int, [v13, v14, v15, v16] = T.out 26 4 [v0, v1, v2, v3] →
 ∀ v17 v18 v19 v20 v21 : Int, [v17, v18, v19, v20, v21] = T.out 31 5 [v13, v14, v15, v16] →
 ∀ v22 : Int, [v22] = T.out 22 1 [v17, v18, v8, v9] →
 ((decide ((v22 : Int) = 1) = true →
  ∀ v23 : Int, [v23] = T.out 22 1 [v19, v20, v10, v11] →
  ((decide ((v23 : Int) = 1) = true →
   (((!decide ((v21 : Int) = v12)) = true →
    post [0]) ∧ ((!decide ((v21 : Int) = v12)) = false →
    post [1]))) ∧ (decide ((v23 : Int) = 1) = false →
   post [0]))) ∧ (decide ((v22 : Int) = 1) = false →
  post [0]))
theorem q8 (T : Tab) (I : Nat → List Int → List Int → Prop) (M : Nat → List Int → List Int → Nat) (pre : Nat → List Int → Prop) (post : List Int → Prop) (v0 v1 v2 v3 : Int) : t8.plain T (presL pre I M) post ⟨[v0, v1, v2, v3], []⟩ = p8 T I M pre post v0 v1 v2 v3 := by kernel_rfl
theorem k8 (T : Tab) (I : Nat → List Int → List Int → Prop) (M : Nat → List Int → List Int → Nat) (pre : Nat → List Int → Prop) (hs : SubSig T c8.sigs) (ht : Tot pre c8.sigs) (hg : T.sig 8 = some s8) (hC : CtAll Try.prog T.fns (pres pre) c8.sigs)
    (h : ∀ (v0 v1 v2 v3 : Int), ((-9223372036854775808) ≤ v0 ∧ v0 ≤ 9223372036854775807) → ((-9223372036854775808) ≤ v1 ∧ v1 ≤ 9223372036854775807) → ((-9223372036854775808) ≤ v2 ∧ v2 ≤ 9223372036854775807) → ((-9223372036854775808) ≤ v3 ∧ v3 ≤ 9223372036854775807) → pre 8 [v0, v1, v2, v3] → p8 T I M pre (fun ys => ys = T.fn 8 [v0, v1, v2, v3]) v0 v1 v2 v3) : CT Try.prog T.fns (pres pre) 8 s8 :=
  T.ctq (F := ⟨c8, []⟩) (fuel := 250) vc8 Try.checked.mixed hs ht hg hC Try.func8 I M (fun _ h _ => h) fun xs hx hp => by
    match xs, hx, hp with
    | [v0, v1, v2, v3], hx, hp => rw [q8]; exact h v0 v1 v2 v3 hx.1 hx.2.1 hx.2.2.1 hx.2.2.2.1 hp

/-- loop.example/g01242/laws.FnExactComposeMoebius -/
noncomputable def c9 : Cfg := ⟨Try.prog, [(26, s26), (32, s32), (33, s33), (34, s34)]⟩
def iv9 : List Iv := [⟨(-9223372036854775808), 9223372036854775807⟩, ⟨(-9223372036854775808), 9223372036854775807⟩, ⟨(-9223372036854775808), 9223372036854775807⟩, ⟨(-9223372036854775808), 9223372036854775807⟩, ⟨(-9223372036854775808), 9223372036854775807⟩, ⟨(-9223372036854775808), 9223372036854775807⟩, ⟨(-9223372036854775808), 9223372036854775807⟩, ⟨(-9223372036854775808), 9223372036854775807⟩]
def t9 : VC :=
 (.call 26 (.e (.var 0) (.e (.var 1) (.e (.var 2) (.e (.var 3) .nil)))) 4
 (.call 26 (.e (.var 4) (.e (.var 5) (.e (.var 6) (.e (.var 7) .nil)))) 4
 (.call 32 (.e (.var 8) (.e (.var 9) (.e (.var 10) (.e (.var 11) (.e (.var 12) (.e (.var 13) (.e (.var 14) (.e (.var 15) .nil)))))))) 5
 (.call 26 (.e (.var 0) (.e (.var 1) (.e (.var 2) (.e (.var 3) .nil)))) 4
 (.call 26 (.e (.var 4) (.e (.var 5) (.e (.var 6) (.e (.var 7) .nil)))) 4
 (.call 33 (.e (.var 21) (.e (.var 22) (.e (.var 23) (.e (.var 24) (.e (.var 25) (.e (.var 26) (.e (.var 27) (.e (.var 28) .nil)))))))) 5
 (.call 34 (.e (.var 29) (.e (.var 30) (.e (.var 31) (.e (.var 32) (.e (.var 16) (.e (.var 17) (.e (.var 18) (.e (.var 19) .nil)))))))) 1
 (.ite (.eq (.var 34) (.lit 1))
  (.ite (.not (.eq (.var 33) (.var 20)))
   (.fin (.e (.lit 0) .nil))
   (.fin (.e (.lit 1) .nil)))
  (.fin (.e (.lit 0) .nil))))))))))
theorem vc9 : vcOfI ⟨c9, []⟩ iv9 250 Try.f9 s9 = t9 := by kernel_rfl
set_option linter.unusedVariables false in
def p9 (T : Tab) (I : Nat → List Int → List Int → Prop) (M : Nat → List Int → List Int → Nat) (pre : Nat → List Int → Prop) (post : List Int → Prop) (v0 v1 v2 v3 v4 v5 v6 v7 : Int) : Prop :=
 ∀ v8 v9 v10 v11 : Int, [v8, v9, v10, v11] = T.out 26 4 [v0, v1, v2, v3] →
 ∀ v12 v13 v14 v15 : Int, [v12, v13, v14, v15] = T.out 26 4 [v4, v5, v6, v7] →
 ∀ v16 v17 v18 v19 v20 : Int, [v16, v17, v18, v19, v20] = T.out 32 5 [v8, v9, v10, v11, v12, v13, v14, v15] →
 ∀ v21 v22 v23 v24 : Int, [v21, v22, v23, v24] = T.out 26 4 [v0, v1, v2, v3] →
 ∀ v25 v26 v27 v28 : Int, [v25, v26, v27, v28] = T.out 26 4 [v4, v5, v6, v7] →
 ∀ v29 v30 v31 v32 v33 : Int, [v29, v30, v31, v32, v33] = T.out 33 5 [v21, v22, v23, v24, v25, v26, v27, v28] →
 ∀ v34 : Int, [v34] = T.out 34 1 [v29, v30, v31, v32, v16, v17, v18, v19] →
 ((decide ((v34 : Int) = 1) = true →
  (((!decide ((v33 : Int) = v20)) = true →
   post [0]) ∧ ((!decide ((v33 : Int) = v20)) = false →
   post [1]))) ∧ (decide ((v34 : Int) = 1) = false →
  post [0]))
theorem q9 (T : Tab) (I : Nat → List Int → List Int → Prop) (M : Nat → List Int → List Int → Nat) (pre : Nat → List Int → Prop) (post : List Int → Prop) (v0 v1 v2 v3 v4 v5 v6 v7 : Int) : t9.plain T (presL pre I M) post ⟨[v0, v1, v2, v3, v4, v5, v6, v7], []⟩ = p9 T I M pre post v0 v1 v2 v3 v4 v5 v6 v7 := by kernel_rfl
theorem k9 (T : Tab) (I : Nat → List Int → List Int → Prop) (M : Nat → List Int → List Int → Nat) (pre : Nat → List Int → Prop) (hs : SubSig T c9.sigs) (ht : Tot pre c9.sigs) (hg : T.sig 9 = some s9) (hC : CtAll Try.prog T.fns (pres pre) c9.sigs)
    (h : ∀ (v0 v1 v2 v3 v4 v5 v6 v7 : Int), ((-9223372036854775808) ≤ v0 ∧ v0 ≤ 9223372036854775807) → ((-9223372036854775808) ≤ v1 ∧ v1 ≤ 9223372036854775807) → ((-9223372036854775808) ≤ v2 ∧ v2 ≤ 9223372036854775807) → ((-9223372036854775808) ≤ v3 ∧ v3 ≤ 9223372036854775807) → ((-9223372036854775808) ≤ v4 ∧ v4 ≤ 9223372036854775807) → ((-9223372036854775808) ≤ v5 ∧ v5 ≤ 9223372036854775807) → ((-9223372036854775808) ≤ v6 ∧ v6 ≤ 9223372036854775807) → ((-9223372036854775808) ≤ v7 ∧ v7 ≤ 9223372036854775807) → pre 9 [v0, v1, v2, v3, v4, v5, v6, v7] → p9 T I M pre (fun ys => ys = T.fn 9 [v0, v1, v2, v3, v4, v5, v6, v7]) v0 v1 v2 v3 v4 v5 v6 v7) : CT Try.prog T.fns (pres pre) 9 s9 :=
  T.ctq (F := ⟨c9, []⟩) (fuel := 250) vc9 Try.checked.mixed hs ht hg hC Try.func9 I M (fun _ h _ => h) fun xs hx hp => by
    match xs, hx, hp with
    | [v0, v1, v2, v3, v4, v5, v6, v7], hx, hp => rw [q9]; exact h v0 v1 v2 v3 v4 v5 v6 v7 hx.1 hx.2.1 hx.2.2.1 hx.2.2.2.1 hx.2.2.2.2.1 hx.2.2.2.2.2.1 hx.2.2.2.2.2.2.1 hx.2.2.2.2.2.2.2.1 hp

/-- cmp.Compare[int64] -/
noncomputable def c92 : Cfg := ⟨Try.prog, [(98, s98)]⟩
def iv92 : List Iv := [⟨(-9223372036854775808), 9223372036854775807⟩, ⟨(-9223372036854775808), 9223372036854775807⟩]
def t92 : VC :=
 (.call 98 (.e (.var 0) .nil) 1
 (.call 98 (.e (.var 1) .nil) 1
 (.ite (.eq (.var 2) (.lit 1))
  (.ite (.eq (.var 3) (.lit 1))
   (.fin (.e (.lit 0) .nil))
   (.fin (.e (.lit (-1)) .nil)))
  (.ite (.eq (.var 3) (.lit 1))
   (.fin (.e (.lit 1) .nil))
   (.ite (.lt (.var 0) (.var 1))
    (.fin (.e (.lit (-1)) .nil))
    (.ite (.lt (.var 1) (.var 0))
     (.fin (.e (.lit 1) .nil))
     (.fin (.e (.lit 0) .nil))))))))
theorem vc92 : vcOfI ⟨c92, []⟩ iv92 250 Try.f92 s92 = t92 := by kernel_rfl
set_option linter.unusedVariables false in
def p92 (T : Tab) (I : Nat → List Int → List Int → Prop) (M : Nat → List Int → List Int → Nat) (pre : Nat → List Int → Prop) (post : List Int → Prop) (v0 v1 : Int) : Prop :=
 ∀ v2 : Int, [v2] = T.out 98 1 [v0] →
 ∀ v3 : Int, [v3] = T.out 98 1 [v1] →
 ((decide ((v2 : Int) = 1) = true →
  ((decide ((v3 : Int) = 1) = true →
   post [0]) ∧ (decide ((v3 : Int) = 1) = false →
   post [(-1)]))) ∧ (decide ((v2 : Int) = 1) = false →
  ((decide ((v3 : Int) = 1) = true →
   post [1]) ∧ (decide ((v3 : Int) = 1) = false →
   ((decide ((v0 : Int) < v1) = true →
    post [(-1)]) ∧ (decide ((v0 : Int) < v1) = false →
    ((decide ((v1 : Int) < v0) = true →
     post [1]) ∧ (decide ((v1 : Int) < v0) = false →
     post [0]))))))))
theorem q92 (T : Tab) (I : Nat → List Int → List Int → Prop) (M : Nat → List Int → List Int → Nat) (pre : Nat → List Int → Prop) (post : List Int → Prop) (v0 v1 : Int) : t92.plain T (presL pre I M) post ⟨[v0, v1], []⟩ = p92 T I M pre post v0 v1 := by kernel_rfl
theorem k92 (T : Tab) (I : Nat → List Int → List Int → Prop) (M : Nat → List Int → List Int → Nat) (pre : Nat → List Int → Prop) (hs : SubSig T c92.sigs) (ht : Tot pre c92.sigs) (hg : T.sig 92 = some s92) (hC : CtAll Try.prog T.fns (pres pre) c92.sigs)
    (h : ∀ (v0 v1 : Int), ((-9223372036854775808) ≤ v0 ∧ v0 ≤ 9223372036854775807) → ((-9223372036854775808) ≤ v1 ∧ v1 ≤ 9223372036854775807) → pre 92 [v0, v1] → p92 T I M pre (fun ys => ys = T.fn 92 [v0, v1]) v0 v1) : CT Try.prog T.fns (pres pre) 92 s92 :=
  T.ctq (F := ⟨c92, []⟩) (fuel := 250) vc92 Try.checked.mixed hs ht hg hC Try.func92 I M (fun _ h _ => h) fun xs hx hp => by
    match xs, hx, hp with
    | [v0, v1], hx, hp => rw [q92]; exact h v0 v1 hx.1 hx.2.1 hp

/-- cmp.isNaN[int64] -/
noncomputable def c98 : Cfg := ⟨Try.prog, []⟩
def iv98 : List Iv := [⟨(-9223372036854775808), 9223372036854775807⟩]
def t98 : VC :=
 (.fin (.e (.ite (.not (.eq (.var 0) (.var 0))) (.lit 1) (.lit 0)) .nil))
theorem vc98 : vcOfI ⟨c98, []⟩ iv98 250 Try.f98 s98 = t98 := by kernel_rfl
set_option linter.unusedVariables false in
def p98 (T : Tab) (I : Nat → List Int → List Int → Prop) (M : Nat → List Int → List Int → Nat) (pre : Nat → List Int → Prop) (post : List Int → Prop) (v0 : Int) : Prop :=
 post [(if (!decide ((v0 : Int) = v0)) = true then 1 else 0)]
theorem q98 (T : Tab) (I : Nat → List Int → List Int → Prop) (M : Nat → List Int → List Int → Nat) (pre : Nat → List Int → Prop) (post : List Int → Prop) (v0 : Int) : t98.plain T (presL pre I M) post ⟨[v0], []⟩ = p98 T I M pre post v0 := by kernel_rfl
theorem k98 (T : Tab) (I : Nat → List Int → List Int → Prop) (M : Nat → List Int → List Int → Nat) (pre : Nat → List Int → Prop) (hs : SubSig T c98.sigs) (ht : Tot pre c98.sigs) (hg : T.sig 98 = some s98) (hC : CtAll Try.prog T.fns (pres pre) c98.sigs)
    (h : ∀ (v0 : Int), ((-9223372036854775808) ≤ v0 ∧ v0 ≤ 9223372036854775807) → pre 98 [v0] → p98 T I M pre (fun ys => ys = T.fn 98 [v0]) v0) : CT Try.prog T.fns (pres pre) 98 s98 :=
  T.ctq (F := ⟨c98, []⟩) (fuel := 250) vc98 Try.checked.mixed hs ht hg hC Try.func98 I M (fun _ h _ => h) fun xs hx hp => by
    match xs, hx, hp with
    | [v0], hx, hp => rw [q98]; exact h v0 hx.1 hp

end Go.Proofs.Ytaknnjlkpepgaaa.Sx
