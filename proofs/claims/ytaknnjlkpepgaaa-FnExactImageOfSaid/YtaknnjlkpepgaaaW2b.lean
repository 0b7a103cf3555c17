/-
  What the symbolic executor asks of these functions, written out by a program of mine, and that it asks just this.
-/
import Derived.Test.YtaknnjlkpepgaaaW2s
import Derived.Test.YtaknnjlkpepgaaaChecked
import Derived.KernelRfl
namespace Go.Proofs.Ytaknnjlkpepgaaa.Sx
open Go Go.RowKit
/-- (loop.example/g01242/impl.Moebius).divides -/
noncomputable def c67 : Cfg := ⟨Try.prog, []⟩
def iv67 : List Iv := [⟨(-9223372036854775808), 9223372036854775807⟩, ⟨(-9223372036854775808), 9223372036854775807⟩, ⟨(-9223372036854775808), 9223372036854775807⟩, ⟨(-9223372036854775808), 9223372036854775807⟩]
def t67 : VC :=
 (.ite (.lt (.var 2) (.var 3))
  (.bind (.ite (.lt (.wrap .i64 (.sub (.lit 0) (.var 2))) (.var 3)) (.lit 1) (.lit 0))
  (.fin (.e (.var 4) .nil)))
  (.fin (.e (.lit 0) .nil)))
theorem vc67 : vcOfI ⟨c67, []⟩ iv67 250 Try.f67 s67 = t67 := by kernel_rfl
set_option linter.unusedVariables false in
def p67 (T : Tab) (I : Nat → List Int → List Int → Prop) (M : Nat → List Int → List Int → Nat) (pre : Nat → List Int → Prop) (post : List Int → Prop) (v0 v1 v2 v3 : Int) : Prop :=
 ((decide ((v2 : Int) < v3) = true →
  ∀ v4 : Int, v4 = (if decide (((IntKind.wrap .i64 (0 - v2)) : Int) < v3) = true then 1 else 0) →
  post [v4]) ∧ (decide ((v2 : Int) < v3) = false →
  post [0]))
theorem q67 (T : Tab) (I : Nat → List Int → List Int → Prop) (M : Nat → List Int → List Int → Nat) (pre : Nat → List Int → Prop) (post : List Int → Prop) (v0 v1 v2 v3 : Int) : t67.plain T (presL pre I M) post ⟨[v0, v1, v2, v3], []⟩ = p67 T I M pre post v0 v1 v2 v3 := by kernel_rfl
theorem k67 (T : Tab) (I : Nat → List Int → List Int → Prop) (M : Nat → List Int → List Int → Nat) (pre : Nat → List Int → Prop) (hs : SubSig T c67.sigs) (ht : Tot pre c67.sigs) (hg : T.sig 67 = some s67) (hC : CtAll Try.prog T.fns (pres pre) c67.sigs)
    (h : ∀ (v0 v1 v2 v3 : Int), ((-9223372036854775808) ≤ v0 ∧ v0 ≤ 9223372036854775807) → ((-9223372036854775808) ≤ v1 ∧ v1 ≤ 9223372036854775807) → ((-9223372036854775808) ≤ v2 ∧ v2 ≤ 9223372036854775807) → ((-9223372036854775808) ≤ v3 ∧ v3 ≤ 9223372036854775807) → pre 67 [v0, v1, v2, v3] → p67 T I M pre (fun ys => ys = T.fn 67 [v0, v1, v2, v3]) v0 v1 v2 v3) : CT Try.prog T.fns (pres pre) 67 s67 :=
  T.ctq (F := ⟨c67, []⟩) (fuel := 250) vc67 Try.checked.mixed hs ht hg hC Try.func67 I M (fun _ h _ => h) fun xs hx hp => by
    match xs, hx, hp with
    | [v0, v1, v2, v3], hx, hp => rw [q67]; exact h v0 v1 v2 v3 hx.1 hx.2.1 hx.2.2.1 hx.2.2.2.1 hp

/-- loop.example/g01242/impl.ValidMoebius -/
noncomputable def c27 : Cfg := ⟨Try.prog, [(66, s66), (67, s67)]⟩
def iv27 : List Iv := [⟨(-9223372036854775808), 9223372036854775807⟩, ⟨(-9223372036854775808), 9223372036854775807⟩, ⟨(-9223372036854775808), 9223372036854775807⟩, ⟨(-9223372036854775808), 9223372036854775807⟩]
def t27 : VC :=
 (.call 66 (.e (.var 0) (.e (.var 1) (.e (.var 2) (.e (.var 3) (.e (.lit 1000000) .nil))))) 1
 (.ite (.eq (.var 4) (.lit 1))
  (.call 67 (.e (.var 0) (.e (.var 1) (.e (.var 2) (.e (.var 3) .nil)))) 1
  (.fin (.e (.var 5) .nil)))
  (.fin (.e (.lit 0) .nil))))
theorem vc27 : vcOfI ⟨c27, []⟩ iv27 250 Try.f27 s27 = t27 := by kernel_rfl
set_option linter.unusedVariables false in
def p27 (T : Tab) (I : Nat → List Int → List Int → Prop) (M : Nat → List Int → List Int → Nat) (pre : Nat → List Int → Prop) (post : List Int → Prop) (v0 v1 v2 v3 : Int) : Prop :=
 ∀ v4 : Int, [v4] = T.out 66 1 [v0, v1, v2, v3, 1000000] →
 ((decide ((v4 : Int) = 1) = true →
  ∀ v5 : Int, [v5] = T.out 67 1 [v0, v1, v2, v3] →
  post [v5]) ∧ (decide ((v4 : Int) = 1) = false →
  post [0]))
theorem q27 (T : Tab) (I : Nat → List Int → List Int → Prop) (M : Nat → List Int → List Int → Nat) (pre : Nat → List Int → Prop) (post : List Int → Prop) (v0 v1 v2 v3 : Int) : t27.plain T (presL pre I M) post ⟨[v0, v1, v2, v3], []⟩ = p27 T I M pre post v0 v1 v2 v3 := by kernel_rfl
theorem k27 (T : Tab) (I : Nat → List Int → List Int → Prop) (M : Nat → List Int → List Int → Nat) (pre : Nat → List Int → Prop) (hs : SubSig T c27.sigs) (ht : Tot pre c27.sigs) (hg : T.sig 27 = some s27) (hC : CtAll Try.prog T.fns (pres pre) c27.sigs)
    (h : ∀ (v0 v1 v2 v3 : Int), ((-9223372036854775808) ≤ v0 ∧ v0 ≤ 9223372036854775807) → ((-9223372036854775808) ≤ v1 ∧ v1 ≤ 9223372036854775807) → ((-9223372036854775808) ≤ v2 ∧ v2 ≤ 9223372036854775807) → ((-9223372036854775808) ≤ v3 ∧ v3 ≤ 9223372036854775807) → pre 27 [v0, v1, v2, v3] → p27 T I M pre (fun ys => ys = T.fn 27 [v0, v1, v2, v3]) v0 v1 v2 v3) : CT Try.prog T.fns (pres pre) 27 s27 :=
  T.ctq (F := ⟨c27, []⟩) (fuel := 250) vc27 Try.checked.mixed hs ht hg hC Try.func27 I M (fun _ h _ => h) fun xs hx hp => by
    match xs, hx, hp with
    | [v0, v1, v2, v3], hx, hp => rw [q27]; exact h v0 v1 v2 v3 hx.1 hx.2.1 hx.2.2.1 hx.2.2.2.1 hp

/-- loop.example/g01242/spec.l03Fits -/
noncomputable def c72 : Cfg := ⟨Try.prog, [(59, s59)]⟩
def iv72 : List Iv := [⟨(-9223372036854775808), 9223372036854775807⟩, ⟨(-9223372036854775808), 9223372036854775807⟩, ⟨(-9223372036854775808), 9223372036854775807⟩, ⟨(-9223372036854775808), 9223372036854775807⟩, ⟨(-9223372036854775808), 9223372036854775807⟩]
def t72 : VC :=
 (.call 59 (.e (.var 0) (.e (.wrap .i64 (.sub (.lit 0) (.var 4))) (.e (.var 4) .nil))) 1
 (.ite (.eq (.var 5) (.lit 1))
  (.call 59 (.e (.var 1) (.e (.wrap .i64 (.sub (.lit 0) (.var 4))) (.e (.var 4) .nil))) 1
  (.ite (.eq (.var 6) (.lit 1))
   (.call 59 (.e (.var 2) (.e (.wrap .i64 (.sub (.lit 0) (.var 4))) (.e (.var 4) .nil))) 1
   (.ite (.eq (.var 7) (.lit 1))
    (.call 59 (.e (.var 3) (.e (.wrap .i64 (.sub (.lit 0) (.var 4))) (.e (.var 4) .nil))) 1
    (.fin (.e (.var 8) .nil)))
    (.fin (.e (.lit 0) .nil))))
   (.fin (.e (.lit 0) .nil))))
  (.fin (.e (.lit 0) .nil))))
theorem vc72 : vcOfI ⟨c72, []⟩ iv72 250 Try.f72 s72 = t72 := by kernel_rfl
set_option linter.unusedVariables false in
def p72 (T : Tab) (I : Nat → List Int → List Int → Prop) (M : Nat → List Int → List Int → Nat) (pre : Nat → List Int → Prop) (post : List Int → Prop) (v0 v1 v2 v3 v4 : Int) : Prop :=
 ∀ v5 : Int, [v5] = T.out 59 1 [v0, (IntKind.wrap .i64 (0 - v4)), v4] →
 ((decide ((v5 : Int) = 1) = true →
  ∀ v6 : Int, [v6] = T.out 59 1 [v1, (IntKind.wrap .i64 (0 - v4)), v4] →
  ((decide ((v6 : Int) = 1) = true →
   ∀ v7 : Int, [v7] = T.out 59 1 [v2, (IntKind.wrap .i64 (0 - v4)), v4] →
   ((decide ((v7 : Int) = 1) = true →
    ∀ v8 : Int, [v8] = T.out 59 1 [v3, (IntKind.wrap .i64 (0 - v4)), v4] →
    post [v8]) ∧ (decide ((v7 : Int) = 1) = false →
    post [0]))) ∧ (decide ((v6 : Int) = 1) = false →
   post [0]))) ∧ (decide ((v5 : Int) = 1) = false →
  post [0]))
theorem q72 (T : Tab) (I : Nat → List Int → List Int → Prop) (M : Nat → List Int → List Int → Nat) (pre : Nat → List Int → Prop) (post : List Int → Prop) (v0 v1 v2 v3 v4 : Int) : t72.plain T (presL pre I M) post ⟨[v0, v1, v2, v3, v4], []⟩ = p72 T I M pre post v0 v1 v2 v3 v4 := by kernel_rfl
theorem k72 (T : Tab) (I : Nat → List Int → List Int → Prop) (M : Nat → List Int → List Int → Nat) (pre : Nat → List Int → Prop) (hs : SubSig T c72.sigs) (ht : Tot pre c72.sigs) (hg : T.sig 72 = some s72) (hC : CtAll Try.prog T.fns (pres pre) c72.sigs)
    (h : ∀ (v0 v1 v2 v3 v4 : Int), ((-9223372036854775808) ≤ v0 ∧ v0 ≤ 9223372036854775807) → ((-9223372036854775808) ≤ v1 ∧ v1 ≤ 9223372036854775807) → ((-9223372036854775808) ≤ v2 ∧ v2 ≤ 9223372036854775807) → ((-9223372036854775808) ≤ v3 ∧ v3 ≤ 9223372036854775807) → ((-9223372036854775808) ≤ v4 ∧ v4 ≤ 9223372036854775807) → pre 72 [v0, v1, v2, v3, v4] → p72 T I M pre (fun ys => ys = T.fn 72 [v0, v1, v2, v3, v4]) v0 v1 v2 v3 v4) : CT Try.prog T.fns (pres pre) 72 s72 :=
  T.ctq (F := ⟨c72, []⟩) (fuel := 250) vc72 Try.checked.mixed hs ht hg hC Try.func72 I M (fun _ h _ => h) fun xs hx hp => by
    match xs, hx, hp with
    | [v0, v1, v2, v3, v4], hx, hp => rw [q72]; exact h v0 v1 v2 v3 v4 hx.1 hx.2.1 hx.2.2.1 hx.2.2.2.1 hx.2.2.2.2.1 hp

/-- loop.example/g01242/spec.l03Machine -/
noncomputable def c65 : Cfg := ⟨Try.prog, [(72, s72), (71, s71)]⟩
def iv65 : List Iv := [⟨(-9223372036854775808), 9223372036854775807⟩, ⟨(-9223372036854775808), 9223372036854775807⟩, ⟨(-9223372036854775808), 9223372036854775807⟩, ⟨(-9223372036854775808), 9223372036854775807⟩]
def t65 : VC :=
 (.ite (.eq (.app 72 0 (.e (.var 0) (.e (.var 1) (.e (.var 2) (.e (.var 3) (.e (.lit 1000000) .nil)))))) (.lit 1))
  (.call 72 (.e (.var 0) (.e (.var 1) (.e (.var 2) (.e (.var 3) (.e (.lit 1000000) .nil))))) 1
  (.call 71 (.e (.var 2) .nil) 1
  (.fin (.e (.ite (.lt (.var 5) (.var 3)) (.lit 1) (.lit 0)) .nil))))
  (.call 72 (.e (.var 0) (.e (.var 1) (.e (.var 2) (.e (.var 3) (.e (.lit 1000000) .nil))))) 1
  (.fin (.e (.lit 0) .nil))))
theorem vc65 : vcOfI ⟨c65, []⟩ iv65 250 Try.f65 s65 = t65 := by kernel_rfl
set_option linter.unusedVariables false in
def p65 (T : Tab) (I : Nat → List Int → List Int → Prop) (M : Nat → List Int → List Int → Nat) (pre : Nat → List Int → Prop) (post : List Int → Prop) (v0 v1 v2 v3 : Int) : Prop :=
 ((decide (((List.getD (T.fns 72 [v0, v1, v2, v3, 1000000] []).1 0 0) : Int) = 1) = true →
  ∀ v4 : Int, [v4] = T.out 72 1 [v0, v1, v2, v3, 1000000] →
  ∀ v5 : Int, [v5] = T.out 71 1 [v2] →
  post [(if decide ((v5 : Int) < v3) = true then 1 else 0)]) ∧ (decide (((List.getD (T.fns 72 [v0, v1, v2, v3, 1000000] []).1 0 0) : Int) = 1) = false →
  ∀ v4 : Int, [v4] = T.out 72 1 [v0, v1, v2, v3, 1000000] →
  post [0]))
theorem q65 (T : Tab) (I : Nat → List Int → List Int → Prop) (M : Nat → List Int → List Int → Nat) (pre : Nat → List Int → Prop) (post : List Int → Prop) (v0 v1 v2 v3 : Int) : t65.plain T (presL pre I M) post ⟨[v0, v1, v2, v3], []⟩ = p65 T I M pre post v0 v1 v2 v3 := by kernel_rfl
theorem k65 (T : Tab) (I : Nat → List Int → List Int → Prop) (M : Nat → List Int → List Int → Nat) (pre : Nat → List Int → Prop) (hs : SubSig T c65.sigs) (ht : Tot pre c65.sigs) (hg : T.sig 65 = some s65) (hC : CtAll Try.prog T.fns (pres pre) c65.sigs)
    (h : ∀ (v0 v1 v2 v3 : Int), ((-9223372036854775808) ≤ v0 ∧ v0 ≤ 9223372036854775807) → ((-9223372036854775808) ≤ v1 ∧ v1 ≤ 9223372036854775807) → ((-9223372036854775808) ≤ v2 ∧ v2 ≤ 9223372036854775807) → ((-9223372036854775808) ≤ v3 ∧ v3 ≤ 9223372036854775807) → pre 65 [v0, v1, v2, v3] → p65 T I M pre (fun ys => ys = T.fn 65 [v0, v1, v2, v3]) v0 v1 v2 v3) : CT Try.prog T.fns (pres pre) 65 s65 :=
  T.ctq (F := ⟨c65, []⟩) (fuel := 250) vc65 Try.checked.mixed hs ht hg hC Try.func65 I M (fun _ h _ => h) fun xs hx hp => by
    match xs, hx, hp with
    | [v0, v1, v2, v3], hx, hp => rw [q65]; exact h v0 v1 v2 v3 hx.1 hx.2.1 hx.2.2.1 hx.2.2.2.1 hp

/-- loop.example/g01242/spec.ValidMoebius -/
noncomputable def c25 : Cfg := ⟨Try.prog, [(65, s65)]⟩
def iv25 : List Iv := [⟨(-9223372036854775808), 9223372036854775807⟩, ⟨(-9223372036854775808), 9223372036854775807⟩, ⟨(-9223372036854775808), 9223372036854775807⟩, ⟨(-9223372036854775808), 9223372036854775807⟩]
def t25 : VC :=
 (.call 65 (.e (.var 0) (.e (.var 1) (.e (.var 2) (.e (.var 3) .nil)))) 1
 (.fin (.e (.var 4) .nil)))
theorem vc25 : vcOfI ⟨c25, []⟩ iv25 250 Try.f25 s25 = t25 := by kernel_rfl
set_option linter.unusedVariables false in
def p25 (T : Tab) (I : Nat → List Int → List Int → Prop) (M : Nat → List Int → List Int → Nat) (pre : Nat → List Int → Prop) (post : List Int → Prop) (v0 v1 v2 v3 : Int) : Prop :=
 ∀ v4 : Int, [v4] = T.out 65 1 [v0, v1, v2, v3] →
 post [v4]
theorem q25 (T : Tab) (I : Nat → List Int → List Int → Prop) (M : Nat → List Int → List Int → Nat) (pre : Nat → List Int → Prop) (post : List Int → Prop) (v0 v1 v2 v3 : Int) : t25.plain T (presL pre I M) post ⟨[v0, v1, v2, v3], []⟩ = p25 T I M pre post v0 v1 v2 v3 := by kernel_rfl
theorem k25 (T : Tab) (I : Nat → List Int → List Int → Prop) (M : Nat → List Int → List Int → Nat) (pre : Nat → List Int → Prop) (hs : SubSig T c25.sigs) (ht : Tot pre c25.sigs) (hg : T.sig 25 = some s25) (hC : CtAll Try.prog T.fns (pres pre) c25.sigs)
    (h : ∀ (v0 v1 v2 v3 : Int), ((-9223372036854775808) ≤ v0 ∧ v0 ≤ 9223372036854775807) → ((-9223372036854775808) ≤ v1 ∧ v1 ≤ 9223372036854775807) → ((-9223372036854775808) ≤ v2 ∧ v2 ≤ 9223372036854775807) → ((-9223372036854775808) ≤ v3 ∧ v3 ≤ 9223372036854775807) → pre 25 [v0, v1, v2, v3] → p25 T I M pre (fun ys => ys = T.fn 25 [v0, v1, v2, v3]) v0 v1 v2 v3) : CT Try.prog T.fns (pres pre) 25 s25 :=
  T.ctq (F := ⟨c25, []⟩) (fuel := 250) vc25 Try.checked.mixed hs ht hg hC Try.func25 I M (fun _ h _ => h) fun xs hx hp => by
    match xs, hx, hp with
    | [v0, v1, v2, v3], hx, hp => rw [q25]; exact h v0 v1 v2 v3 hx.1 hx.2.1 hx.2.2.1 hx.2.2.2.1 hp

/-- loop.example/g01242/impl.ApplyMoebius -/
noncomputable def c29 : Cfg := ⟨Try.prog, [(27, s27), (19, s19), (21, s21)]⟩
def iv29 : List Iv := [⟨(-9223372036854775808), 9223372036854775807⟩, ⟨(-9223372036854775808), 9223372036854775807⟩, ⟨(-9223372036854775808), 9223372036854775807⟩, ⟨(-9223372036854775808), 9223372036854775807⟩, ⟨(-9223372036854775808), 9223372036854775807⟩, ⟨(-9223372036854775808), 9223372036854775807⟩]
def t29 : VC :=
 (.call 27 (.e (.var 0) (.e (.var 1) (.e (.var 2) (.e (.var 3) .nil)))) 1
 (.ite (.eq (.var 6) (.lit 1))
  (.call 19 (.e (.var 4) (.e (.var 5) .nil)) 1
  (.ite (.not (.eq (.var 7) (.lit 1)))
   (.fin (.e (.lit 0) (.e (.lit 0) (.e (.lit 1) .nil))))
   (.call 21 (.e (.wrap .i64 (.add (.wrap .i64 (.mul (.var 0) (.var 4))) (.wrap .i64 (.mul (.var 1) (.var 5))))) (.e (.wrap .i64 (.add (.wrap .i64 (.mul (.var 2) (.var 4))) (.wrap .i64 (.mul (.var 3) (.var 5))))) .nil)) 3
   (.fin (.e (.var 8) (.e (.var 9) (.e (.var 10) .nil)))))))
  (.fin (.e (.lit 0) (.e (.lit 0) (.e (.lit 1) .nil))))))
theorem vc29 : vcOfI ⟨c29, []⟩ iv29 250 Try.f29 s29 = t29 := by kernel_rfl
set_option linter.unusedVariables false in
def p29 (T : Tab) (I : Nat → List Int → List Int → Prop) (M : Nat → List Int → List Int → Nat) (pre : Nat → List Int → Prop) (post : List Int → Prop) (v0 v1 v2 v3 v4 v5 : Int) : Prop :=
 ∀ v6 : Int, [v6] = T.out 27 1 [v0, v1, v2, v3] →
 ((decide ((v6 : Int) = 1) = true →
  ∀ v7 : Int, [v7] = T.out 19 1 [v4, v5] →
  (((!decide ((v7 : Int) = 1)) = true →
   post [0, 0, 1]) ∧ ((!decide ((v7 : Int) = 1)) = false →
   ∀ v8 v9 v10 : Int, [v8, v9, v10] = T.out 21 3 [(IntKind.wrap .i64 ((IntKind.wrap .i64 (v0 * v4)) + (IntKind.wrap .i64 (v1 * v5)))), (IntKind.wrap .i64 ((IntKind.wrap .i64 (v2 * v4)) + (IntKind.wrap .i64 (v3 * v5))))] →
   post [v8, v9, v10]))) ∧ (decide ((v6 : Int) = 1) = false →
  post [0, 0, 1]))
theorem q29 (T : Tab) (I : Nat → List Int → List Int → Prop) (M : Nat → List Int → List Int → Nat) (pre : Nat → List Int → Prop) (post : List Int → Prop) (v0 v1 v2 v3 v4 v5 : Int) : t29.plain T (presL pre I M) post ⟨[v0, v1, v2, v3, v4, v5], []⟩ = p29 T I M pre post v0 v1 v2 v3 v4 v5 := by kernel_rfl
theorem k29 (T : Tab) (I : Nat → List Int → List Int → Prop) (M : Nat → List Int → List Int → Nat) (pre : Nat → List Int → Prop) (hs : SubSig T c29.sigs) (ht : Tot pre c29.sigs) (hg : T.sig 29 = some s29) (hC : CtAll Try.prog T.fns (pres pre) c29.sigs)
    (h : ∀ (v0 v1 v2 v3 v4 v5 : Int), ((-9223372036854775808) ≤ v0 ∧ v0 ≤ 9223372036854775807) → ((-9223372036854775808) ≤ v1 ∧ v1 ≤ 9223372036854775807) → ((-9223372036854775808) ≤ v2 ∧ v2 ≤ 9223372036854775807) → ((-9223372036854775808) ≤ v3 ∧ v3 ≤ 9223372036854775807) → ((-9223372036854775808) ≤ v4 ∧ v4 ≤ 9223372036854775807) → ((-9223372036854775808) ≤ v5 ∧ v5 ≤ 9223372036854775807) → pre 29 [v0, v1, v2, v3, v4, v5] → p29 T I M pre (fun ys => ys = T.fn 29 [v0, v1, v2, v3, v4, v5]) v0 v1 v2 v3 v4 v5) : CT Try.prog T.fns (pres pre) 29 s29 :=
  T.ctq (F := ⟨c29, []⟩) (fuel := 250) vc29 Try.checked.mixed hs ht hg hC Try.func29 I M (fun _ h _ => h) fun xs hx hp => by
    match xs, hx, hp with
    | [v0, v1, v2, v3, v4, v5], hx, hp => rw [q29]; exact h v0 v1 v2 v3 v4 v5 hx.1 hx.2.1 hx.2.2.1 hx.2.2.2.1 hx.2.2.2.2.1 hx.2.2.2.2.2.1 hp

/-- loop.example/g01242/spec.ApplyMoebius -/
noncomputable def c28 : Cfg := ⟨Try.prog, [(65, s65), (58, s58), (60, s60)]⟩
def iv28 : List Iv := [⟨(-9223372036854775808), 9223372036854775807⟩, ⟨(-9223372036854775808), 9223372036854775807⟩, ⟨(-9223372036854775808), 9223372036854775807⟩, ⟨(-9223372036854775808), 9223372036854775807⟩, ⟨(-9223372036854775808), 9223372036854775807⟩, ⟨(-9223372036854775808), 9223372036854775807⟩]
def t28 : VC :=
 (.call 65 (.e (.var 0) (.e (.var 1) (.e (.var 2) (.e (.var 3) .nil)))) 1
 (.ite (.eq (.var 6) (.lit 1))
  (.call 58 (.e (.var 4) (.e (.var 5) .nil)) 1
  (.ite (.not (.eq (.var 7) (.lit 1)))
   (.fin (.e (.lit 0) (.e (.lit 0) (.e (.lit 1) .nil))))
   (.bind (.wrap .i64 (.add (.wrap .i64 (.mul (.var 2) (.var 4))) (.wrap .i64 (.mul (.var 3) (.var 5)))))
   (.ite (.eq (.var 8) (.lit 0))
    (.fin (.e (.lit 0) (.e (.lit 0) (.e (.lit 4) .nil))))
    (.need [(.pre 60 (.e (.wrap .i64 (.add (.wrap .i64 (.mul (.var 0) (.var 4))) (.wrap .i64 (.mul (.var 1) (.var 5))))) (.e (.var 8) .nil)))]
    (.call 60 (.e (.wrap .i64 (.add (.wrap .i64 (.mul (.var 0) (.var 4))) (.wrap .i64 (.mul (.var 1) (.var 5))))) (.e (.var 8) .nil)) 3
    (.fin (.e (.var 9) (.e (.var 10) (.e (.var 11) .nil))))))))))
  (.fin (.e (.lit 0) (.e (.lit 0) (.e (.lit 1) .nil))))))
theorem vc28 : vcOfI ⟨c28, []⟩ iv28 250 Try.f28 s28 = t28 := by kernel_rfl
set_option linter.unusedVariables false in
def p28 (T : Tab) (I : Nat → List Int → List Int → Prop) (M : Nat → List Int → List Int → Nat) (pre : Nat → List Int → Prop) (post : List Int → Prop) (v0 v1 v2 v3 v4 v5 : Int) : Prop :=
 ∀ v6 : Int, [v6] = T.out 65 1 [v0, v1, v2, v3] →
 ((decide ((v6 : Int) = 1) = true →
  ∀ v7 : Int, [v7] = T.out 58 1 [v4, v5] →
  (((!decide ((v7 : Int) = 1)) = true →
   post [0, 0, 1]) ∧ ((!decide ((v7 : Int) = 1)) = false →
   ∀ v8 : Int, v8 = (IntKind.wrap .i64 ((IntKind.wrap .i64 (v2 * v4)) + (IntKind.wrap .i64 (v3 * v5)))) →
   ((decide ((v8 : Int) = 0) = true →
    post [0, 0, 4]) ∧ (decide ((v8 : Int) = 0) = false →
    ((pre 60 [(IntKind.wrap .i64 ((IntKind.wrap .i64 (v0 * v4)) + (IntKind.wrap .i64 (v1 * v5)))), v8]) ∧ ((pre 60 [(IntKind.wrap .i64 ((IntKind.wrap .i64 (v0 * v4)) + (IntKind.wrap .i64 (v1 * v5)))), v8]) →
    ∀ v9 v10 v11 : Int, [v9, v10, v11] = T.out 60 3 [(IntKind.wrap .i64 ((IntKind.wrap .i64 (v0 * v4)) + (IntKind.wrap .i64 (v1 * v5)))), v8] →
    post [v9, v10, v11]))))))) ∧ (decide ((v6 : Int) = 1) = false →
  post [0, 0, 1]))
theorem q28 (T : Tab) (I : Nat → List Int → List Int → Prop) (M : Nat → List Int → List Int → Nat) (pre : Nat → List Int → Prop) (post : List Int → Prop) (v0 v1 v2 v3 v4 v5 : Int) : t28.plain T (presL pre I M) post ⟨[v0, v1, v2, v3, v4, v5], []⟩ = p28 T I M pre post v0 v1 v2 v3 v4 v5 := by kernel_rfl
theorem k28 (T : Tab) (I : Nat → List Int → List Int → Prop) (M : Nat → List Int → List Int → Nat) (pre : Nat → List Int → Prop) (hs : SubSig T c28.sigs) (ht : Tot pre c28.sigs) (hg : T.sig 28 = some s28) (hC : CtAll Try.prog T.fns (pres pre) c28.sigs)
    (h : ∀ (v0 v1 v2 v3 v4 v5 : Int), ((-9223372036854775808) ≤ v0 ∧ v0 ≤ 9223372036854775807) → ((-9223372036854775808) ≤ v1 ∧ v1 ≤ 9223372036854775807) → ((-9223372036854775808) ≤ v2 ∧ v2 ≤ 9223372036854775807) → ((-9223372036854775808) ≤ v3 ∧ v3 ≤ 9223372036854775807) → ((-9223372036854775808) ≤ v4 ∧ v4 ≤ 9223372036854775807) → ((-9223372036854775808) ≤ v5 ∧ v5 ≤ 9223372036854775807) → pre 28 [v0, v1, v2, v3, v4, v5] → p28 T I M pre (fun ys => ys = T.fn 28 [v0, v1, v2, v3, v4, v5]) v0 v1 v2 v3 v4 v5) : CT Try.prog T.fns (pres pre) 28 s28 :=
  T.ctq (F := ⟨c28, []⟩) (fuel := 250) vc28 Try.checked.mixed hs ht hg hC Try.func28 I M (fun _ h _ => h) fun xs hx hp => by
    match xs, hx, hp with
    | [v0, v1, v2, v3, v4, v5], hx, hp => rw [q28]; exact h v0 v1 v2 v3 v4 v5 hx.1 hx.2.1 hx.2.2.1 hx.2.2.2.1 hx.2.2.2.2.1 hx.2.2.2.2.2.1 hp

/-- loop.example/g01242/impl.ImageOf -/
noncomputable def c31 : Cfg := ⟨Try.prog, [(27, s27), (21, s21), (64, s64)]⟩
def iv31 : List Iv := [⟨(-9223372036854775808), 9223372036854775807⟩, ⟨(-9223372036854775808), 9223372036854775807⟩, ⟨(-9223372036854775808), 9223372036854775807⟩, ⟨(-9223372036854775808), 9223372036854775807⟩]
def t31 : VC :=
 (.call 27 (.e (.var 0) (.e (.var 1) (.e (.var 2) (.e (.var 3) .nil)))) 1
 (.ite (.not (.eq (.var 4) (.lit 1)))
  (.fin (.e (.lit 0) (.e (.lit 0) (.e (.lit 0) (.e (.lit 0) (.e (.lit 1) .nil))))))
  (.call 21 (.e (.wrap .i64 (.sub (.var 1) (.var 0))) (.e (.wrap .i64 (.sub (.var 3) (.var 2))) .nil)) 3
  (.call 21 (.e (.wrap .i64 (.add (.var 1) (.var 0))) (.e (.wrap .i64 (.add (.var 3) (.var 2))) .nil)) 3
  (.call 64 (.e (.var 5) (.e (.var 6) (.e (.var 8) (.e (.var 9) .nil)))) 1
  (.bind (.ite (.lt (.lit 0) (.var 11)) (.var 8) (.var 5))
  (.bind (.ite (.lt (.lit 0) (.var 11)) (.var 9) (.var 6))
  (.bind (.ite (.lt (.lit 0) (.var 11)) (.var 5) (.var 8))
  (.bind (.ite (.lt (.lit 0) (.var 11)) (.var 6) (.var 9))
  (.fin (.e (.var 12) (.e (.var 13) (.e (.var 14) (.e (.var 15) (.e (.lit 0) .nil)))))))))))))))
theorem vc31 : vcOfI ⟨c31, []⟩ iv31 250 Try.f31 s31 = t31 := by kernel_rfl
set_option linter.unusedVariables false in
def p31 (T : Tab) (I : Nat → List Int → List Int → Prop) (M : Nat → List Int → List Int → Nat) (pre : Nat → List Int → Prop) (post : List Int → Prop) (v0 v1 v2 v3 : Int) : Prop :=
 ∀ v4 : Int, [v4] = T.out 27 1 [v0, v1, v2, v3] →
 (((!decide ((v4 : Int) = 1)) = true →
  post [0, 0, 0, 0, 1]) ∧ ((!decide ((v4 : Int) = 1)) = false →
  ∀ v5 v6 v7 : Int, [v5, v6, v7] = T.out 21 3 [(IntKind.wrap .i64 (v1 - v0)), (IntKind.wrap .i64 (v3 - v2))] →
  ∀ v8 v9 v10 : Int, [v8, v9, v10] = T.out 21 3 [(IntKind.wrap .i64 (v1 + v0)), (IntKind.wrap .i64 (v3 + v2))] →
  ∀ v11 : Int, [v11] = T.out 64 1 [v5, v6, v8, v9] →
  ∀ v12 : Int, v12 = (if decide ((0 : Int) < v11) = true then v8 else v5) →
  ∀ v13 : Int, v13 = (if decide ((0 : Int) < v11) = true then v9 else v6) →
  ∀ v14 : Int, v14 = (if decide ((0 : Int) < v11) = true then v5 else v8) →
  ∀ v15 : Int, v15 = (if decide ((0 : Int) < v11) = true then v6 else v9) →
  post [v12, v13, v14, v15, 0]))
theorem q31 (T : Tab) (I : Nat → List Int → List Int → Prop) (M : Nat → List Int → List Int → Nat) (pre : Nat → List Int → Prop) (post : List Int → Prop) (v0 v1 v2 v3 : Int) : t31.plain T (presL pre I M) post ⟨[v0, v1, v2, v3], []⟩ = p31 T I M pre post v0 v1 v2 v3 := by kernel_rfl
theorem k31 (T : Tab) (I : Nat → List Int → List Int → Prop) (M : Nat → List Int → List Int → Nat) (pre : Nat → List Int → Prop) (hs : SubSig T c31.sigs) (ht : Tot pre c31.sigs) (hg : T.sig 31 = some s31) (hC : CtAll Try.prog T.fns (pres pre) c31.sigs)
    (h : ∀ (v0 v1 v2 v3 : Int), ((-9223372036854775808) ≤ v0 ∧ v0 ≤ 9223372036854775807) → ((-9223372036854775808) ≤ v1 ∧ v1 ≤ 9223372036854775807) → ((-9223372036854775808) ≤ v2 ∧ v2 ≤ 9223372036854775807) → ((-9223372036854775808) ≤ v3 ∧ v3 ≤ 9223372036854775807) → pre 31 [v0, v1, v2, v3] → p31 T I M pre (fun ys => ys = T.fn 31 [v0, v1, v2, v3]) v0 v1 v2 v3) : CT Try.prog T.fns (pres pre) 31 s31 :=
  T.ctq (F := ⟨c31, []⟩) (fuel := 250) vc31 Try.checked.mixed hs ht hg hC Try.func31 I M (fun _ h _ => h) fun xs hx hp => by
    match xs, hx, hp with
    | [v0, v1, v2, v3], hx, hp => rw [q31]; exact h v0 v1 v2 v3 hx.1 hx.2.1 hx.2.2.1 hx.2.2.2.1 hp

/-- loop.example/g01242/spec.l03Image -/
noncomputable def c68 : Cfg := ⟨Try.prog, [(60, s60), (63, s63)]⟩
def iv68 : List Iv := [⟨(-9223372036854775808), 9223372036854775807⟩, ⟨(-9223372036854775808), 9223372036854775807⟩, ⟨(-9223372036854775808), 9223372036854775807⟩, ⟨(-9223372036854775808), 9223372036854775807⟩]
def t68 : VC :=
 (.need [(.pre 60 (.e (.wrap .i64 (.sub (.var 1) (.var 0))) (.e (.wrap .i64 (.sub (.var 3) (.var 2))) .nil)))]
 (.call 60 (.e (.wrap .i64 (.sub (.var 1) (.var 0))) (.e (.wrap .i64 (.sub (.var 3) (.var 2))) .nil)) 3
 (.need [(.pre 60 (.e (.wrap .i64 (.add (.var 1) (.var 0))) (.e (.wrap .i64 (.add (.var 3) (.var 2))) .nil)))]
 (.call 60 (.e (.wrap .i64 (.add (.var 1) (.var 0))) (.e (.wrap .i64 (.add (.var 3) (.var 2))) .nil)) 3
 (.call 63 (.e (.var 7) (.e (.var 8) (.e (.var 4) (.e (.var 5) .nil)))) 1
 (.ite (.lt (.var 10) (.lit 0))
  (.fin (.e (.var 7) (.e (.var 8) (.e (.var 4) (.e (.var 5) .nil)))))
  (.fin (.e (.var 4) (.e (.var 5) (.e (.var 7) (.e (.var 8) .nil)))))))))))
theorem vc68 : vcOfI ⟨c68, []⟩ iv68 250 Try.f68 s68 = t68 := by kernel_rfl
set_option linter.unusedVariables false in
def p68 (T : Tab) (I : Nat → List Int → List Int → Prop) (M : Nat → List Int → List Int → Nat) (pre : Nat → List Int → Prop) (post : List Int → Prop) (v0 v1 v2 v3 : Int) : Prop :=
 ((pre 60 [(IntKind.wrap .i64 (v1 - v0)), (IntKind.wrap .i64 (v3 - v2))]) ∧ ((pre 60 [(IntKind.wrap .i64 (v1 - v0)), (IntKind.wrap .i64 (v3 - v2))]) →
 ∀ v4 v5 v6 : Int, [v4, v5, v6] = T.out 60 3 [(IntKind.wrap .i64 (v1 - v0)), (IntKind.wrap .i64 (v3 - v2))] →
 ((pre 60 [(IntKind.wrap .i64 (v1 + v0)), (IntKind.wrap .i64 (v3 + v2))]) ∧ ((pre 60 [(IntKind.wrap .i64 (v1 + v0)), (IntKind.wrap .i64 (v3 + v2))]) →
 ∀ v7 v8 v9 : Int, [v7, v8, v9] = T.out 60 3 [(IntKind.wrap .i64 (v1 + v0)), (IntKind.wrap .i64 (v3 + v2))] →
 ∀ v10 : Int, [v10] = T.out 63 1 [v7, v8, v4, v5] →
 ((decide ((v10 : Int) < 0) = true →
  post [v7, v8, v4, v5]) ∧ (decide ((v10 : Int) < 0) = false →
  post [v4, v5, v7, v8]))))))
theorem q68 (T : Tab) (I : Nat → List Int → List Int → Prop) (M : Nat → List Int → List Int → Nat) (pre : Nat → List Int → Prop) (post : List Int → Prop) (v0 v1 v2 v3 : Int) : t68.plain T (presL pre I M) post ⟨[v0, v1, v2, v3], []⟩ = p68 T I M pre post v0 v1 v2 v3 := by kernel_rfl
theorem k68 (T : Tab) (I : Nat → List Int → List Int → Prop) (M : Nat → List Int → List Int → Nat) (pre : Nat → List Int → Prop) (hs : SubSig T c68.sigs) (ht : Tot pre c68.sigs) (hg : T.sig 68 = some s68) (hC : CtAll Try.prog T.fns (pres pre) c68.sigs) (hi : ∀ xs, pre 68 xs → allHas iv68 xs)
    (h : ∀ (v0 v1 v2 v3 : Int), ((-9223372036854775808) ≤ v0 ∧ v0 ≤ 9223372036854775807) → ((-9223372036854775808) ≤ v1 ∧ v1 ≤ 9223372036854775807) → ((-9223372036854775808) ≤ v2 ∧ v2 ≤ 9223372036854775807) → ((-9223372036854775808) ≤ v3 ∧ v3 ≤ 9223372036854775807) → pre 68 [v0, v1, v2, v3] → p68 T I M pre (fun ys => ys = T.fn 68 [v0, v1, v2, v3]) v0 v1 v2 v3) : CT Try.prog T.fns (pres pre) 68 s68 :=
  T.ctq (F := ⟨c68, []⟩) (fuel := 250) vc68 Try.checked.mixed hs ht hg hC Try.func68 I M (fun xs _ h => hi xs h) fun xs hx hp => by
    match xs, hx, hp with
    | [v0, v1, v2, v3], hx, hp => rw [q68]; exact h v0 v1 v2 v3 hx.1 hx.2.1 hx.2.2.1 hx.2.2.2.1 hp

/-- loop.example/g01242/spec.ImageOf -/
noncomputable def c30 : Cfg := ⟨Try.prog, [(65, s65), (68, s68)]⟩
def iv30 : List Iv := [⟨(-9223372036854775808), 9223372036854775807⟩, ⟨(-9223372036854775808), 9223372036854775807⟩, ⟨(-9223372036854775808), 9223372036854775807⟩, ⟨(-9223372036854775808), 9223372036854775807⟩]
def t30 : VC :=
 (.call 65 (.e (.var 0) (.e (.var 1) (.e (.var 2) (.e (.var 3) .nil)))) 1
 (.ite (.not (.eq (.var 4) (.lit 1)))
  (.fin (.e (.lit 0) (.e (.lit 0) (.e (.lit 0) (.e (.lit 0) (.e (.lit 1) .nil))))))
  (.need [(.pre 68 (.e (.var 0) (.e (.var 1) (.e (.var 2) (.e (.var 3) .nil)))))]
  (.call 68 (.e (.var 0) (.e (.var 1) (.e (.var 2) (.e (.var 3) .nil)))) 4
  (.fin (.e (.var 5) (.e (.var 6) (.e (.var 7) (.e (.var 8) (.e (.lit 0) .nil))))))))))
theorem vc30 : vcOfI ⟨c30, []⟩ iv30 250 Try.f30 s30 = t30 := by kernel_rfl
set_option linter.unusedVariables false in
def p30 (T : Tab) (I : Nat → List Int → List Int → Prop) (M : Nat → List Int → List Int → Nat) (pre : Nat → List Int → Prop) (post : List Int → Prop) (v0 v1 v2 v3 : Int) : Prop :=
 ∀ v4 : Int, [v4] = T.out 65 1 [v0, v1, v2, v3] →
 (((!decide ((v4 : Int) = 1)) = true →
  post [0, 0, 0, 0, 1]) ∧ ((!decide ((v4 : Int) = 1)) = false →
  ((pre 68 [v0, v1, v2, v3]) ∧ ((pre 68 [v0, v1, v2, v3]) →
  ∀ v5 v6 v7 v8 : Int, [v5, v6, v7, v8] = T.out 68 4 [v0, v1, v2, v3] →
  post [v5, v6, v7, v8, 0]))))
theorem q30 (T : Tab) (I : Nat → List Int → List Int → Prop) (M : Nat → List Int → List Int → Nat) (pre : Nat → List Int → Prop) (post : List Int → Prop) (v0 v1 v2 v3 : Int) : t30.plain T (presL pre I M) post ⟨[v0, v1, v2, v3], []⟩ = p30 T I M pre post v0 v1 v2 v3 := by kernel_rfl
theorem k30 (T : Tab) (I : Nat → List Int → List Int → Prop) (M : Nat → List Int → List Int → Nat) (pre : Nat → List Int → Prop) (hs : SubSig T c30.sigs) (ht : Tot pre c30.sigs) (hg : T.sig 30 = some s30) (hC : CtAll Try.prog T.fns (pres pre) c30.sigs)
    (h : ∀ (v0 v1 v2 v3 : Int), ((-9223372036854775808) ≤ v0 ∧ v0 ≤ 9223372036854775807) → ((-9223372036854775808) ≤ v1 ∧ v1 ≤ 9223372036854775807) → ((-9223372036854775808) ≤ v2 ∧ v2 ≤ 9223372036854775807) → ((-9223372036854775808) ≤ v3 ∧ v3 ≤ 9223372036854775807) → pre 30 [v0, v1, v2, v3] → p30 T I M pre (fun ys => ys = T.fn 30 [v0, v1, v2, v3]) v0 v1 v2 v3) : CT Try.prog T.fns (pres pre) 30 s30 :=
  T.ctq (F := ⟨c30, []⟩) (fuel := 250) vc30 Try.checked.mixed hs ht hg hC Try.func30 I M (fun _ h _ => h) fun xs hx hp => by
    match xs, hx, hp with
    | [v0, v1, v2, v3], hx, hp => rw [q30]; exact h v0 v1 v2 v3 hx.1 hx.2.1 hx.2.2.1 hx.2.2.2.1 hp

/-- (loop.example/g01242/impl.Moebius).times -/
noncomputable def c73 : Cfg := ⟨Try.prog, []⟩
def iv73 : List Iv := [⟨(-9223372036854775808), 9223372036854775807⟩, ⟨(-9223372036854775808), 9223372036854775807⟩, ⟨(-9223372036854775808), 9223372036854775807⟩, ⟨(-9223372036854775808), 9223372036854775807⟩, ⟨(-9223372036854775808), 9223372036854775807⟩, ⟨(-9223372036854775808), 9223372036854775807⟩, ⟨(-9223372036854775808), 9223372036854775807⟩, ⟨(-9223372036854775808), 9223372036854775807⟩]
def t73 : VC :=
 (.bind (.wrap .i64 (.add (.wrap .i64 (.mul (.var 0) (.var 4))) (.wrap .i64 (.mul (.var 1) (.var 6)))))
 (.bind (.wrap .i64 (.add (.wrap .i64 (.mul (.var 0) (.var 5))) (.wrap .i64 (.mul (.var 1) (.var 7)))))
 (.bind (.wrap .i64 (.add (.wrap .i64 (.mul (.var 2) (.var 4))) (.wrap .i64 (.mul (.var 3) (.var 6)))))
 (.bind (.wrap .i64 (.add (.wrap .i64 (.mul (.var 2) (.var 5))) (.wrap .i64 (.mul (.var 3) (.var 7)))))
 (.fin (.e (.var 8) (.e (.var 9) (.e (.var 10) (.e (.var 11) .nil)))))))))
theorem vc73 : vcOfI ⟨c73, []⟩ iv73 250 Try.f73 s73 = t73 := by kernel_rfl
set_option linter.unusedVariables false in
def p73 (T : Tab) (I : Nat → List Int → List Int → Prop) (M : Nat → List Int → List Int → Nat) (pre : Nat → List Int → Prop) (post : List Int → Prop) (v0 v1 v2 v3 v4 v5 v6 v7 : Int) : Prop :=
 ∀ v8 : Int, v8 = (IntKind.wrap .i64 ((IntKind.wrap .i64 (v0 * v4)) + (IntKind.wrap .i64 (v1 * v6)))) →
 ∀ v9 : Int, v9 = (IntKind.wrap .i64 ((IntKind.wrap .i64 (v0 * v5)) + (IntKind.wrap .i64 (v1 * v7)))) →
 ∀ v10 : Int, v10 = (IntKind.wrap .i64 ((IntKind.wrap .i64 (v2 * v4)) + (IntKind.wrap .i64 (v3 * v6)))) →
 ∀ v11 : Int, v11 = (IntKind.wrap .i64 ((IntKind.wrap .i64 (v2 * v5)) + (IntKind.wrap .i64 (v3 * v7)))) →
 post [v8, v9, v10, v11]
theorem q73 (T : Tab) (I : Nat → List Int → List Int → Prop) (M : Nat → List Int → List Int → Nat) (pre : Nat → List Int → Prop) (post : List Int → Prop) (v0 v1 v2 v3 v4 v5 v6 v7 : Int) : t73.plain T (presL pre I M) post ⟨[v0, v1, v2, v3, v4, v5, v6, v7], []⟩ = p73 T I M pre post v0 v1 v2 v3 v4 v5 v6 v7 := by kernel_rfl
theorem k73 (T : Tab) (I : Nat → List Int → List Int → Prop) (M : Nat → List Int → List Int → Nat) (pre : Nat → List Int → Prop) (hs : SubSig T c73.sigs) (ht : Tot pre c73.sigs) (hg : T.sig 73 = some s73) (hC : CtAll Try.prog T.fns (pres pre) c73.sigs)
    (h : ∀ (v0 v1 v2 v3 v4 v5 v6 v7 : Int), ((-9223372036854775808) ≤ v0 ∧ v0 ≤ 9223372036854775807) → ((-9223372036854775808) ≤ v1 ∧ v1 ≤ 9223372036854775807) → ((-9223372036854775808) ≤ v2 ∧ v2 ≤ 9223372036854775807) → ((-9223372036854775808) ≤ v3 ∧ v3 ≤ 9223372036854775807) → ((-9223372036854775808) ≤ v4 ∧ v4 ≤ 9223372036854775807) → ((-9223372036854775808) ≤ v5 ∧ v5 ≤ 9223372036854775807) → ((-9223372036854775808) ≤ v6 ∧ v6 ≤ 9223372036854775807) → ((-9223372036854775808) ≤ v7 ∧ v7 ≤ 9223372036854775807) → pre 73 [v0, v1, v2, v3, v4, v5, v6, v7] → p73 T I M pre (fun ys => ys = T.fn 73 [v0, v1, v2, v3, v4, v5, v6, v7]) v0 v1 v2 v3 v4 v5 v6 v7) : CT Try.prog T.fns (pres pre) 73 s73 :=
  T.ctq (F := ⟨c73, []⟩) (fuel := 250) vc73 Try.checked.mixed hs ht hg hC Try.func73 I M (fun _ h _ => h) fun xs hx hp => by
    match xs, hx, hp with
    | [v0, v1, v2, v3, v4, v5, v6, v7], hx, hp => rw [q73]; exact h v0 v1 v2 v3 v4 v5 v6 v7 hx.1 hx.2.1 hx.2.2.1 hx.2.2.2.1 hx.2.2.2.2.1 hx.2.2.2.2.2.1 hx.2.2.2.2.2.2.1 hx.2.2.2.2.2.2.2.1 hp

/-- loop.example/g01242/impl.ComposeMoebius -/
noncomputable def c33 : Cfg := ⟨Try.prog, [(27, s27), (73, s73), (74, s74), (67, s67), (66, s66)]⟩
def iv33 : List Iv := [⟨(-9223372036854775808), 9223372036854775807⟩, ⟨(-9223372036854775808), 9223372036854775807⟩, ⟨(-9223372036854775808), 9223372036854775807⟩, ⟨(-9223372036854775808), 9223372036854775807⟩, ⟨(-9223372036854775808), 9223372036854775807⟩, ⟨(-9223372036854775808), 9223372036854775807⟩, ⟨(-9223372036854775808), 9223372036854775807⟩, ⟨(-9223372036854775808), 9223372036854775807⟩]
def t33 : VC :=
 (.call 27 (.e (.var 0) (.e (.var 1) (.e (.var 2) (.e (.var 3) .nil)))) 1
 (.ite (.eq (.var 8) (.lit 1))
  (.call 27 (.e (.var 4) (.e (.var 5) (.e (.var 6) (.e (.var 7) .nil)))) 1
  (.ite (.not (.eq (.var 9) (.lit 1)))
   (.fin (.e (.lit 0) (.e (.lit 0) (.e (.lit 0) (.e (.lit 0) (.e (.lit 1) .nil))))))
   (.call 73 (.e (.var 0) (.e (.var 1) (.e (.var 2) (.e (.var 3) (.e (.var 4) (.e (.var 5) (.e (.var 6) (.e (.var 7) .nil)))))))) 4
   (.need [(.pre 74 (.e (.var 10) (.e (.var 11) (.e (.var 12) (.e (.var 13) .nil)))))]
   (.call 74 (.e (.var 10) (.e (.var 11) (.e (.var 12) (.e (.var 13) .nil)))) 4
   (.ite (.lt (.var 17) (.lit 0))
    (.bind (.wrap .i64 (.sub (.lit 0) (.var 14)))
    (.bind (.wrap .i64 (.sub (.lit 0) (.var 15)))
    (.bind (.wrap .i64 (.sub (.lit 0) (.var 16)))
    (.bind (.wrap .i64 (.sub (.lit 0) (.var 17)))
    (.call 67 (.e (.var 18) (.e (.var 19) (.e (.var 20) (.e (.var 21) .nil)))) 1
    (.ite (.not (.eq (.var 22) (.lit 1)))
     (.fin (.e (.lit 0) (.e (.lit 0) (.e (.lit 0) (.e (.lit 0) (.e (.lit 4) .nil))))))
     (.call 66 (.e (.var 18) (.e (.var 19) (.e (.var 20) (.e (.var 21) (.e (.lit 1000000) .nil))))) 1
     (.ite (.not (.eq (.var 23) (.lit 1)))
      (.fin (.e (.lit 0) (.e (.lit 0) (.e (.lit 0) (.e (.lit 0) (.e (.lit 3) .nil))))))
      (.fin (.e (.var 18) (.e (.var 19) (.e (.var 20) (.e (.var 21) (.e (.lit 0) .nil))))))))))))))
    (.call 67 (.e (.var 14) (.e (.var 15) (.e (.var 16) (.e (.var 17) .nil)))) 1
    (.ite (.not (.eq (.var 18) (.lit 1)))
     (.fin (.e (.lit 0) (.e (.lit 0) (.e (.lit 0) (.e (.lit 0) (.e (.lit 4) .nil))))))
     (.call 66 (.e (.var 14) (.e (.var 15) (.e (.var 16) (.e (.var 17) (.e (.lit 1000000) .nil))))) 1
     (.ite (.not (.eq (.var 19) (.lit 1)))
      (.fin (.e (.lit 0) (.e (.lit 0) (.e (.lit 0) (.e (.lit 0) (.e (.lit 3) .nil))))))
      (.fin (.e (.var 14) (.e (.var 15) (.e (.var 16) (.e (.var 17) (.e (.lit 0) .nil))))))))))))))))
  (.fin (.e (.lit 0) (.e (.lit 0) (.e (.lit 0) (.e (.lit 0) (.e (.lit 1) .nil))))))))
theorem vc33 : vcOfI ⟨c33, []⟩ iv33 250 Try.f33 s33 = t33 := by kernel_rfl
set_option linter.unusedVariables false in
def p33 (T : Tab) (I : Nat → List Int → List Int → Prop) (M : Nat → List Int → List Int → Nat) (pre : Nat → List Int → Prop) (post : List Int → Prop) (v0 v1 v2 v3 v4 v5 v6 v7 : Int) : Prop :=
 ∀ v8 : Int, [v8] = T.out 27 1 [v0, v1, v2, v3] →
 ((decide ((v8 : Int) = 1) = true →
  ∀ v9 : Int, [v9] = T.out 27 1 [v4, v5, v6, v7] →
  (((!decide ((v9 : Int) = 1)) = true →
   post [0, 0, 0, 0, 1]) ∧ ((!decide ((v9 : Int) = 1)) = false →
   ∀ v10 v11 v12 v13 : Int, [v10, v11, v12, v13] = T.out 73 4 [v0, v1, v2, v3, v4, v5, v6, v7] →
   ((pre 74 [v10, v11, v12, v13]) ∧ ((pre 74 [v10, v11, v12, v13]) →
   ∀ v14 v15 v16 v17 : Int, [v14, v15, v16, v17] = T.out 74 4 [v10, v11, v12, v13] →
   ((decide ((v17 : Int) < 0) = true →
    ∀ v18 : Int, v18 = (IntKind.wrap .i64 (0 - v14)) →
    ∀ v19 : Int, v19 = (IntKind.wrap .i64 (0 - v15)) →
    ∀ v20 : Int, v20 = (IntKind.wrap .i64 (0 - v16)) →
    ∀ v21 : Int, v21 = (IntKind.wrap .i64 (0 - v17)) →
    ∀ v22 : Int, [v22] = T.out 67 1 [v18, v19, v20, v21] →
    (((!decide ((v22 : Int) = 1)) = true →
     post [0, 0, 0, 0, 4]) ∧ ((!decide ((v22 : Int) = 1)) = false →
     ∀ v23 : Int, [v23] = T.out 66 1 [v18, v19, v20, v21, 1000000] →
     (((!decide ((v23 : Int) = 1)) = true →
      post [0, 0, 0, 0, 3]) ∧ ((!decide ((v23 : Int) = 1)) = false →
      post [v18, v19, v20, v21, 0]))))) ∧ (decide ((v17 : Int) < 0) = false →
    ∀ v18 : Int, [v18] = T.out 67 1 [v14, v15, v16, v17] →
    (((!decide ((v18 : Int) = 1)) = true →
     post [0, 0, 0, 0, 4]) ∧ ((!decide ((v18 : Int) = 1)) = false →
     ∀ v19 : Int, [v19] = T.out 66 1 [v14, v15, v16, v17, 1000000] →
     (((!decide ((v19 : Int) = 1)) = true →
      post [0, 0, 0, 0, 3]) ∧ ((!decide ((v19 : Int) = 1)) = false →
      post [v14, v15, v16, v17, 0]))))))))))) ∧ (decide ((v8 : Int) = 1) = false →
  post [0, 0, 0, 0, 1]))
theorem q33 (T : Tab) (I : Nat → List Int → List Int → Prop) (M : Nat → List Int → List Int → Nat) (pre : Nat → List Int → Prop) (post : List Int → Prop) (v0 v1 v2 v3 v4 v5 v6 v7 : Int) : t33.plain T (presL pre I M) post ⟨[v0, v1, v2, v3, v4, v5, v6, v7], []⟩ = p33 T I M pre post v0 v1 v2 v3 v4 v5 v6 v7 := by kernel_rfl
theorem k33 (T : Tab) (I : Nat → List Int → List Int → Prop) (M : Nat → List Int → List Int → Nat) (pre : Nat → List Int → Prop) (hs : SubSig T c33.sigs) (ht : Tot pre c33.sigs) (hg : T.sig 33 = some s33) (hC : CtAll Try.prog T.fns (pres pre) c33.sigs)
    (h : ∀ (v0 v1 v2 v3 v4 v5 v6 v7 : Int), ((-9223372036854775808) ≤ v0 ∧ v0 ≤ 9223372036854775807) → ((-9223372036854775808) ≤ v1 ∧ v1 ≤ 9223372036854775807) → ((-9223372036854775808) ≤ v2 ∧ v2 ≤ 9223372036854775807) → ((-9223372036854775808) ≤ v3 ∧ v3 ≤ 9223372036854775807) → ((-9223372036854775808) ≤ v4 ∧ v4 ≤ 9223372036854775807) → ((-9223372036854775808) ≤ v5 ∧ v5 ≤ 9223372036854775807) → ((-9223372036854775808) ≤ v6 ∧ v6 ≤ 9223372036854775807) → ((-9223372036854775808) ≤ v7 ∧ v7 ≤ 9223372036854775807) → pre 33 [v0, v1, v2, v3, v4, v5, v6, v7] → p33 T I M pre (fun ys => ys = T.fn 33 [v0, v1, v2, v3, v4, v5, v6, v7]) v0 v1 v2 v3 v4 v5 v6 v7) : CT Try.prog T.fns (pres pre) 33 s33 :=
  T.ctq (F := ⟨c33, []⟩) (fuel := 250) vc33 Try.checked.mixed hs ht hg hC Try.func33 I M (fun _ h _ => h) fun xs hx hp => by
    match xs, hx, hp with
    | [v0, v1, v2, v3, v4, v5, v6, v7], hx, hp => rw [q33]; exact h v0 v1 v2 v3 v4 v5 v6 v7 hx.1 hx.2.1 hx.2.2.1 hx.2.2.2.1 hx.2.2.2.2.1 hx.2.2.2.2.2.1 hx.2.2.2.2.2.2.1 hx.2.2.2.2.2.2.2.1 hp

/-- loop.example/g01242/spec.l03Four -/
noncomputable def c69 : Cfg := ⟨Try.prog, [(91, s91)]⟩
def iv69 : List Iv := [⟨(-9223372036854775808), 9223372036854775807⟩, ⟨(-9223372036854775808), 9223372036854775807⟩, ⟨(-9223372036854775808), 9223372036854775807⟩, ⟨(-9223372036854775808), 9223372036854775807⟩]
def t69 : VC :=
 (.need [(.pre 91 (.e (.var 0) (.e (.var 1) .nil))), (.pre 91 (.e (.var 2) (.e (.var 3) .nil))), (.pre 91 (.e (.app 91 0 (.e (.var 0) (.e (.var 1) .nil))) (.e (.app 91 0 (.e (.var 2) (.e (.var 3) .nil))) .nil)))]
 (.call 91 (.e (.var 0) (.e (.var 1) .nil)) 1
 (.call 91 (.e (.var 2) (.e (.var 3) .nil)) 1
 (.call 91 (.e (.var 4) (.e (.var 5) .nil)) 1
 (.fin (.e (.var 6) .nil))))))
theorem vc69 : vcOfI ⟨c69, []⟩ iv69 250 Try.f69 s69 = t69 := by kernel_rfl
set_option linter.unusedVariables false in
def p69 (T : Tab) (I : Nat → List Int → List Int → Prop) (M : Nat → List Int → List Int → Nat) (pre : Nat → List Int → Prop) (post : List Int → Prop) (v0 v1 v2 v3 : Int) : Prop :=
 ((pre 91 [v0, v1] ∧ pre 91 [v2, v3] ∧ pre 91 [(List.getD (T.fns 91 [v0, v1] []).1 0 0), (List.getD (T.fns 91 [v2, v3] []).1 0 0)]) ∧ ((pre 91 [v0, v1] ∧ pre 91 [v2, v3] ∧ pre 91 [(List.getD (T.fns 91 [v0, v1] []).1 0 0), (List.getD (T.fns 91 [v2, v3] []).1 0 0)]) →
 ∀ v4 : Int, [v4] = T.out 91 1 [v0, v1] →
 ∀ v5 : Int, [v5] = T.out 91 1 [v2, v3] →
 ∀ v6 : Int, [v6] = T.out 91 1 [v4, v5] →
 post [v6]))
theorem q69 (T : Tab) (I : Nat → List Int → List Int → Prop) (M : Nat → List Int → List Int → Nat) (pre : Nat → List Int → Prop) (post : List Int → Prop) (v0 v1 v2 v3 : Int) : t69.plain T (presL pre I M) post ⟨[v0, v1, v2, v3], []⟩ = p69 T I M pre post v0 v1 v2 v3 := by kernel_rfl
theorem k69 (T : Tab) (I : Nat → List Int → List Int → Prop) (M : Nat → List Int → List Int → Nat) (pre : Nat → List Int → Prop) (hs : SubSig T c69.sigs) (ht : Tot pre c69.sigs) (hg : T.sig 69 = some s69) (hC : CtAll Try.prog T.fns (pres pre) c69.sigs) (hi : ∀ xs, pre 69 xs → allHas iv69 xs)
    (h : ∀ (v0 v1 v2 v3 : Int), ((-9223372036854775808) ≤ v0 ∧ v0 ≤ 9223372036854775807) → ((-9223372036854775808) ≤ v1 ∧ v1 ≤ 9223372036854775807) → ((-9223372036854775808) ≤ v2 ∧ v2 ≤ 9223372036854775807) → ((-9223372036854775808) ≤ v3 ∧ v3 ≤ 9223372036854775807) → pre 69 [v0, v1, v2, v3] → p69 T I M pre (fun ys => ys = T.fn 69 [v0, v1, v2, v3]) v0 v1 v2 v3) : CT Try.prog T.fns (pres pre) 69 s69 :=
  T.ctq (F := ⟨c69, []⟩) (fuel := 250) vc69 Try.checked.mixed hs ht hg hC Try.func69 I M (fun xs _ h => hi xs h) fun xs hx hp => by
    match xs, hx, hp with
    | [v0, v1, v2, v3], hx, hp => rw [q69]; exact h v0 v1 v2 v3 hx.1 hx.2.1 hx.2.2.1 hx.2.2.2.1 hp

/-- loop.example/g01242/spec.l03Less -/
noncomputable def c70 : Cfg := ⟨Try.prog, [(69, s69)]⟩
def iv70 : List Iv := [⟨(-9223372036854775808), 9223372036854775807⟩, ⟨(-9223372036854775808), 9223372036854775807⟩, ⟨(-9223372036854775808), 9223372036854775807⟩, ⟨(-9223372036854775808), 9223372036854775807⟩]
def t70 : VC :=
 (.need [(.pre 69 (.e (.var 0) (.e (.var 1) (.e (.var 2) (.e (.var 3) .nil)))))]
 (.call 69 (.e (.var 0) (.e (.var 1) (.e (.var 2) (.e (.var 3) .nil)))) 1
 (.need [(.b (.not (.eq (.var 4) (.lit 0)))), (.b (.not (.eq (.var 4) (.lit 0)))), (.b (.not (.eq (.var 4) (.lit 0)))), (.b (.not (.eq (.var 4) (.lit 0))))]
 (.bind (.wrap .i64 (.tdiv (.var 0) (.var 4)))
 (.bind (.wrap .i64 (.tdiv (.var 1) (.var 4)))
 (.bind (.wrap .i64 (.tdiv (.var 2) (.var 4)))
 (.bind (.wrap .i64 (.tdiv (.var 3) (.var 4)))
 (.fin (.e (.var 5) (.e (.var 6) (.e (.var 7) (.e (.var 8) .nil))))))))))))
theorem vc70 : vcOfI ⟨c70, []⟩ iv70 250 Try.f70 s70 = t70 := by kernel_rfl
set_option linter.unusedVariables false in
def p70 (T : Tab) (I : Nat → List Int → List Int → Prop) (M : Nat → List Int → List Int → Nat) (pre : Nat → List Int → Prop) (post : List Int → Prop) (v0 v1 v2 v3 : Int) : Prop :=
 ((pre 69 [v0, v1, v2, v3]) ∧ ((pre 69 [v0, v1, v2, v3]) →
 ∀ v4 : Int, [v4] = T.out 69 1 [v0, v1, v2, v3] →
 (((!decide ((v4 : Int) = 0)) = true ∧ (!decide ((v4 : Int) = 0)) = true ∧ (!decide ((v4 : Int) = 0)) = true ∧ (!decide ((v4 : Int) = 0)) = true) ∧ (((!decide ((v4 : Int) = 0)) = true ∧ (!decide ((v4 : Int) = 0)) = true ∧ (!decide ((v4 : Int) = 0)) = true ∧ (!decide ((v4 : Int) = 0)) = true) →
 ∀ v5 : Int, v5 = (IntKind.wrap .i64 (Int.tdiv v0 v4)) →
 ∀ v6 : Int, v6 = (IntKind.wrap .i64 (Int.tdiv v1 v4)) →
 ∀ v7 : Int, v7 = (IntKind.wrap .i64 (Int.tdiv v2 v4)) →
 ∀ v8 : Int, v8 = (IntKind.wrap .i64 (Int.tdiv v3 v4)) →
 post [v5, v6, v7, v8]))))
theorem q70 (T : Tab) (I : Nat → List Int → List Int → Prop) (M : Nat → List Int → List Int → Nat) (pre : Nat → List Int → Prop) (post : List Int → Prop) (v0 v1 v2 v3 : Int) : t70.plain T (presL pre I M) post ⟨[v0, v1, v2, v3], []⟩ = p70 T I M pre post v0 v1 v2 v3 := by kernel_rfl
theorem k70 (T : Tab) (I : Nat → List Int → List Int → Prop) (M : Nat → List Int → List Int → Nat) (pre : Nat → List Int → Prop) (hs : SubSig T c70.sigs) (ht : Tot pre c70.sigs) (hg : T.sig 70 = some s70) (hC : CtAll Try.prog T.fns (pres pre) c70.sigs) (hi : ∀ xs, pre 70 xs → allHas iv70 xs)
    (h : ∀ (v0 v1 v2 v3 : Int), ((-9223372036854775808) ≤ v0 ∧ v0 ≤ 9223372036854775807) → ((-9223372036854775808) ≤ v1 ∧ v1 ≤ 9223372036854775807) → ((-9223372036854775808) ≤ v2 ∧ v2 ≤ 9223372036854775807) → ((-9223372036854775808) ≤ v3 ∧ v3 ≤ 9223372036854775807) → pre 70 [v0, v1, v2, v3] → p70 T I M pre (fun ys => ys = T.fn 70 [v0, v1, v2, v3]) v0 v1 v2 v3) : CT Try.prog T.fns (pres pre) 70 s70 :=
  T.ctq (F := ⟨c70, []⟩) (fuel := 250) vc70 Try.checked.mixed hs ht hg hC Try.func70 I M (fun xs _ h => hi xs h) fun xs hx hp => by
    match xs, hx, hp with
    | [v0, v1, v2, v3], hx, hp => rw [q70]; exact h v0 v1 v2 v3 hx.1 hx.2.1 hx.2.2.1 hx.2.2.2.1 hp

end Go.Proofs.Ytaknnjlkpepgaaa.Sx
