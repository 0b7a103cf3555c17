/-
  What the symbolic executor asks of these functions, written out by a program of mine, and that it asks just this.
-/
import Derived.Test.YtaknnjlkpepgaaaW2s
import Derived.Test.YtaknnjlkpepgaaaChecked
import Derived.KernelRfl
namespace Go.Proofs.Ytaknnjlkpepgaaa.Sx
open Go Go.RowKit
/-- loop.example/g01242/impl.commonOf -/
noncomputable def c62 : Cfg := ⟨Try.prog, []⟩
def iv62 : List Iv := [⟨(-9223372036854775808), 9223372036854775807⟩, ⟨(-9223372036854775808), 9223372036854775807⟩]
def t62 : VC :=
 (.loop 0 [(.lit 0), (.var 0)] [⟨(-9223372036854775808), 9223372036854775807⟩, ⟨(-9223372036854775808), 9223372036854775807⟩]
  (.ite (.not (.eq (.var 3) (.lit 0)))
   (.need [(.b (.not (.eq (.var 3) (.lit 0))))]
   (.bind (.tmod (.var 2) (.var 3))
   (.again 0 2 [⟨(-9223372036854775808), 9223372036854775807⟩, ⟨(-9223372036854775808), 9223372036854775807⟩] [(.var 3), (.var 4)])))
   (.loop 0 [(.var 2), (.var 1)] [⟨(-9223372036854775808), 9223372036854775807⟩, ⟨(-9223372036854775808), 9223372036854775807⟩]
    (.ite (.not (.eq (.var 5) (.lit 0)))
     (.need [(.b (.not (.eq (.var 5) (.lit 0))))]
     (.bind (.tmod (.var 4) (.var 5))
     (.again 0 4 [⟨(-9223372036854775808), 9223372036854775807⟩, ⟨(-9223372036854775808), 9223372036854775807⟩] [(.var 5), (.var 6)])))
     (.bind (.ite (.lt (.var 4) (.wrap .i64 (.sub (.lit 0) (.var 4)))) (.wrap .i64 (.sub (.lit 0) (.var 4))) (.var 4))
     (.fin (.e (.var 6) .nil)))))))
theorem vc62 : vcOfI ⟨c62, [(5, ⟨0, [3, 5], [], [12, 13, 14, 15, 16, 17, 10], [⟨(-9223372036854775808), 9223372036854775807⟩, ⟨(-9223372036854775808), 9223372036854775807⟩]⟩)]⟩ iv62 250 Try.f62 s62 = t62 := by kernel_rfl
set_option linter.unusedVariables false in
def p62 (T : Tab) (I : Nat → List Int → List Int → Prop) (M : Nat → List Int → List Int → Nat) (pre : Nat → List Int → Prop) (post : List Int → Prop) (v0 v1 : Int) : Prop :=
 ((allHas [⟨(-9223372036854775808), 9223372036854775807⟩, ⟨(-9223372036854775808), 9223372036854775807⟩] [0, v0] ∧ I 0 [v0, v1] [0, v0]) ∧ ∀ v2 v3 : Int, allHas [⟨(-9223372036854775808), 9223372036854775807⟩, ⟨(-9223372036854775808), 9223372036854775807⟩] [v2, v3] → I 0 [v0, v1] [v2, v3] →
  (((!decide ((v3 : Int) = 0)) = true →
   (((!decide ((v3 : Int) = 0)) = true) ∧ (((!decide ((v3 : Int) = 0)) = true) →
   ∀ v4 : Int, v4 = (Int.tmod v2 v3) →
   (allHas [⟨(-9223372036854775808), 9223372036854775807⟩, ⟨(-9223372036854775808), 9223372036854775807⟩] [v3, v4] ∧ I 0 [v0, v1] [v3, v4] ∧ M 0 [v0, v1] [v3, v4] < M 0 [v0, v1] [v2, v3])))) ∧ ((!decide ((v3 : Int) = 0)) = false →
   ((allHas [⟨(-9223372036854775808), 9223372036854775807⟩, ⟨(-9223372036854775808), 9223372036854775807⟩] [v2, v1] ∧ I 0 [v0, v1, v2, v3] [v2, v1]) ∧ ∀ v4 v5 : Int, allHas [⟨(-9223372036854775808), 9223372036854775807⟩, ⟨(-9223372036854775808), 9223372036854775807⟩] [v4, v5] → I 0 [v0, v1, v2, v3] [v4, v5] →
    (((!decide ((v5 : Int) = 0)) = true →
     (((!decide ((v5 : Int) = 0)) = true) ∧ (((!decide ((v5 : Int) = 0)) = true) →
     ∀ v6 : Int, v6 = (Int.tmod v4 v5) →
     (allHas [⟨(-9223372036854775808), 9223372036854775807⟩, ⟨(-9223372036854775808), 9223372036854775807⟩] [v5, v6] ∧ I 0 [v0, v1, v2, v3] [v5, v6] ∧ M 0 [v0, v1, v2, v3] [v5, v6] < M 0 [v0, v1, v2, v3] [v4, v5])))) ∧ ((!decide ((v5 : Int) = 0)) = false →
     ∀ v6 : Int, v6 = (if decide ((v4 : Int) < (IntKind.wrap .i64 (0 - v4))) = true then (IntKind.wrap .i64 (0 - v4)) else v4) →
     post [v6]))))))
theorem q62 (T : Tab) (I : Nat → List Int → List Int → Prop) (M : Nat → List Int → List Int → Nat) (pre : Nat → List Int → Prop) (post : List Int → Prop) (v0 v1 : Int) : t62.plain T (presL pre I M) post ⟨[v0, v1], []⟩ = p62 T I M pre post v0 v1 := by kernel_rfl
theorem k62 (T : Tab) (I : Nat → List Int → List Int → Prop) (M : Nat → List Int → List Int → Nat) (pre : Nat → List Int → Prop) (hs : SubSig T c62.sigs) (ht : Tot pre c62.sigs) (hg : T.sig 62 = some s62) (hC : CtAll Try.prog T.fns (pres pre) c62.sigs) (hi : ∀ xs, pre 62 xs → allHas iv62 xs)
    (h : ∀ (v0 v1 : Int), ((-9223372036854775808) ≤ v0 ∧ v0 ≤ 9223372036854775807) → ((-9223372036854775808) ≤ v1 ∧ v1 ≤ 9223372036854775807) → pre 62 [v0, v1] → p62 T I M pre (fun ys => ys = T.fn 62 [v0, v1]) v0 v1) : CT Try.prog T.fns (pres pre) 62 s62 :=
  T.ctq (F := ⟨c62, [(5, ⟨0, [3, 5], [], [12, 13, 14, 15, 16, 17, 10], [⟨(-9223372036854775808), 9223372036854775807⟩, ⟨(-9223372036854775808), 9223372036854775807⟩]⟩)]⟩) (fuel := 250) vc62 Try.checked.mixed hs ht hg hC Try.func62 I M (fun xs _ h => hi xs h) fun xs hx hp => by
    match xs, hx, hp with
    | [v0, v1], hx, hp => rw [q62]; exact h v0 v1 hx.1 hx.2.1 hp

/-- loop.example/g01242/spec.l03Common -/
noncomputable def c91 : Cfg := ⟨Try.prog, [(71, s71)]⟩
def iv91 : List Iv := [⟨(-9223372036854775808), 9223372036854775807⟩, ⟨(-9223372036854775808), 9223372036854775807⟩]
def t91 : VC :=
 (.call 71 (.e (.var 0) .nil) 1
 (.call 71 (.e (.var 1) .nil) 1
 (.loop 0 [(.var 2), (.var 3)] [⟨(-9223372036854775808), 9223372036854775807⟩, ⟨(-9223372036854775808), 9223372036854775807⟩]
  (.ite (.not (.eq (.var 5) (.lit 0)))
   (.need [(.b (.not (.eq (.var 5) (.lit 0))))]
   (.bind (.tmod (.var 4) (.var 5))
   (.again 0 4 [⟨(-9223372036854775808), 9223372036854775807⟩, ⟨(-9223372036854775808), 9223372036854775807⟩] [(.var 5), (.var 6)])))
   (.fin (.e (.var 4) .nil))))))
theorem vc91 : vcOfI ⟨c91, [(3, ⟨0, [0, 1], [], [10, 11, 12, 13, 14, 5, 15, 16], [⟨(-9223372036854775808), 9223372036854775807⟩, ⟨(-9223372036854775808), 9223372036854775807⟩]⟩)]⟩ iv91 250 Try.f91 s91 = t91 := by kernel_rfl
set_option linter.unusedVariables false in
def p91 (T : Tab) (I : Nat → List Int → List Int → Prop) (M : Nat → List Int → List Int → Nat) (pre : Nat → List Int → Prop) (post : List Int → Prop) (v0 v1 : Int) : Prop :=
 ∀ v2 : Int, [v2] = T.out 71 1 [v0] →
 ∀ v3 : Int, [v3] = T.out 71 1 [v1] →
 ((allHas [⟨(-9223372036854775808), 9223372036854775807⟩, ⟨(-9223372036854775808), 9223372036854775807⟩] [v2, v3] ∧ I 0 [v0, v1, v2, v3] [v2, v3]) ∧ ∀ v4 v5 : Int, allHas [⟨(-9223372036854775808), 9223372036854775807⟩, ⟨(-9223372036854775808), 9223372036854775807⟩] [v4, v5] → I 0 [v0, v1, v2, v3] [v4, v5] →
  (((!decide ((v5 : Int) = 0)) = true →
   (((!decide ((v5 : Int) = 0)) = true) ∧ (((!decide ((v5 : Int) = 0)) = true) →
   ∀ v6 : Int, v6 = (Int.tmod v4 v5) →
   (allHas [⟨(-9223372036854775808), 9223372036854775807⟩, ⟨(-9223372036854775808), 9223372036854775807⟩] [v5, v6] ∧ I 0 [v0, v1, v2, v3] [v5, v6] ∧ M 0 [v0, v1, v2, v3] [v5, v6] < M 0 [v0, v1, v2, v3] [v4, v5])))) ∧ ((!decide ((v5 : Int) = 0)) = false →
   post [v4])))
theorem q91 (T : Tab) (I : Nat → List Int → List Int → Prop) (M : Nat → List Int → List Int → Nat) (pre : Nat → List Int → Prop) (post : List Int → Prop) (v0 v1 : Int) : t91.plain T (presL pre I M) post ⟨[v0, v1], []⟩ = p91 T I M pre post v0 v1 := by kernel_rfl
theorem k91 (T : Tab) (I : Nat → List Int → List Int → Prop) (M : Nat → List Int → List Int → Nat) (pre : Nat → List Int → Prop) (hs : SubSig T c91.sigs) (ht : Tot pre c91.sigs) (hg : T.sig 91 = some s91) (hC : CtAll Try.prog T.fns (pres pre) c91.sigs) (hi : ∀ xs, pre 91 xs → allHas iv91 xs)
    (h : ∀ (v0 v1 : Int), ((-9223372036854775808) ≤ v0 ∧ v0 ≤ 9223372036854775807) → ((-9223372036854775808) ≤ v1 ∧ v1 ≤ 9223372036854775807) → pre 91 [v0, v1] → p91 T I M pre (fun ys => ys = T.fn 91 [v0, v1]) v0 v1) : CT Try.prog T.fns (pres pre) 91 s91 :=
  T.ctq (F := ⟨c91, [(3, ⟨0, [0, 1], [], [10, 11, 12, 13, 14, 5, 15, 16], [⟨(-9223372036854775808), 9223372036854775807⟩, ⟨(-9223372036854775808), 9223372036854775807⟩]⟩)]⟩) (fuel := 250) vc91 Try.checked.mixed hs ht hg hC Try.func91 I M (fun xs _ h => hi xs h) fun xs hx hp => by
    match xs, hx, hp with
    | [v0, v1], hx, hp => rw [q91]; exact h v0 v1 hx.1 hx.2.1 hp

/-- loop.example/g01242/spec.l03Size -/
noncomputable def c71 : Cfg := ⟨Try.prog, []⟩
def iv71 : List Iv := [⟨(-9223372036854775808), 9223372036854775807⟩]
def t71 : VC :=
 (.ite (.lt (.var 0) (.lit 0))
  (.bind (.wrap .i64 (.sub (.lit 0) (.var 0)))
  (.fin (.e (.var 1) .nil)))
  (.fin (.e (.var 0) .nil)))
theorem vc71 : vcOfI ⟨c71, []⟩ iv71 250 Try.f71 s71 = t71 := by kernel_rfl
set_option linter.unusedVariables false in
def p71 (T : Tab) (I : Nat → List Int → List Int → Prop) (M : Nat → List Int → List Int → Nat) (pre : Nat → List Int → Prop) (post : List Int → Prop) (v0 : Int) : Prop :=
 ((decide ((v0 : Int) < 0) = true →
  ∀ v1 : Int, v1 = (IntKind.wrap .i64 (0 - v0)) →
  post [v1]) ∧ (decide ((v0 : Int) < 0) = false →
  post [v0]))
theorem q71 (T : Tab) (I : Nat → List Int → List Int → Prop) (M : Nat → List Int → List Int → Nat) (pre : Nat → List Int → Prop) (post : List Int → Prop) (v0 : Int) : t71.plain T (presL pre I M) post ⟨[v0], []⟩ = p71 T I M pre post v0 := by kernel_rfl
theorem k71 (T : Tab) (I : Nat → List Int → List Int → Prop) (M : Nat → List Int → List Int → Nat) (pre : Nat → List Int → Prop) (hs : SubSig T c71.sigs) (ht : Tot pre c71.sigs) (hg : T.sig 71 = some s71) (hC : CtAll Try.prog T.fns (pres pre) c71.sigs)
    (h : ∀ (v0 : Int), ((-9223372036854775808) ≤ v0 ∧ v0 ≤ 9223372036854775807) → pre 71 [v0] → p71 T I M pre (fun ys => ys = T.fn 71 [v0]) v0) : CT Try.prog T.fns (pres pre) 71 s71 :=
  T.ctq (F := ⟨c71, []⟩) (fuel := 250) vc71 Try.checked.mixed hs ht hg hC Try.func71 I M (fun _ h _ => h) fun xs hx hp => by
    match xs, hx, hp with
    | [v0], hx, hp => rw [q71]; exact h v0 hx.1 hp

/-- loop.example/g01242/spec.l00In -/
noncomputable def c59 : Cfg := ⟨Try.prog, []⟩
def iv59 : List Iv := [⟨(-9223372036854775808), 9223372036854775807⟩, ⟨(-9223372036854775808), 9223372036854775807⟩, ⟨(-9223372036854775808), 9223372036854775807⟩]
def t59 : VC :=
 (.ite (.le (.var 1) (.var 0))
  (.fin (.e (.ite (.le (.var 0) (.var 2)) (.lit 1) (.lit 0)) .nil))
  (.fin (.e (.lit 0) .nil)))
theorem vc59 : vcOfI ⟨c59, []⟩ iv59 250 Try.f59 s59 = t59 := by kernel_rfl
set_option linter.unusedVariables false in
def p59 (T : Tab) (I : Nat → List Int → List Int → Prop) (M : Nat → List Int → List Int → Nat) (pre : Nat → List Int → Prop) (post : List Int → Prop) (v0 v1 v2 : Int) : Prop :=
 ((decide ((v1 : Int) ≤ v0) = true →
  post [(if decide ((v0 : Int) ≤ v2) = true then 1 else 0)]) ∧ (decide ((v1 : Int) ≤ v0) = false →
  post [0]))
theorem q59 (T : Tab) (I : Nat → List Int → List Int → Prop) (M : Nat → List Int → List Int → Nat) (pre : Nat → List Int → Prop) (post : List Int → Prop) (v0 v1 v2 : Int) : t59.plain T (presL pre I M) post ⟨[v0, v1, v2], []⟩ = p59 T I M pre post v0 v1 v2 := by kernel_rfl
theorem k59 (T : Tab) (I : Nat → List Int → List Int → Prop) (M : Nat → List Int → List Int → Nat) (pre : Nat → List Int → Prop) (hs : SubSig T c59.sigs) (ht : Tot pre c59.sigs) (hg : T.sig 59 = some s59) (hC : CtAll Try.prog T.fns (pres pre) c59.sigs)
    (h : ∀ (v0 v1 v2 : Int), ((-9223372036854775808) ≤ v0 ∧ v0 ≤ 9223372036854775807) → ((-9223372036854775808) ≤ v1 ∧ v1 ≤ 9223372036854775807) → ((-9223372036854775808) ≤ v2 ∧ v2 ≤ 9223372036854775807) → pre 59 [v0, v1, v2] → p59 T I M pre (fun ys => ys = T.fn 59 [v0, v1, v2]) v0 v1 v2) : CT Try.prog T.fns (pres pre) 59 s59 :=
  T.ctq (F := ⟨c59, []⟩) (fuel := 250) vc59 Try.checked.mixed hs ht hg hC Try.func59 I M (fun _ h _ => h) fun xs hx hp => by
    match xs, hx, hp with
    | [v0, v1, v2], hx, hp => rw [q59]; exact h v0 v1 v2 hx.1 hx.2.1 hx.2.2.1 hp

/-- loop.example/g01242/impl.isWithin -/
noncomputable def c61 : Cfg := ⟨Try.prog, []⟩
def iv61 : List Iv := [⟨(-9223372036854775808), 9223372036854775807⟩, ⟨(-9223372036854775808), 9223372036854775807⟩]
def t61 : VC :=
 (.ite (.le (.wrap .i64 (.sub (.lit 0) (.var 1))) (.var 0))
  (.fin (.e (.ite (.le (.var 0) (.var 1)) (.lit 1) (.lit 0)) .nil))
  (.fin (.e (.lit 0) .nil)))
theorem vc61 : vcOfI ⟨c61, []⟩ iv61 250 Try.f61 s61 = t61 := by kernel_rfl
set_option linter.unusedVariables false in
def p61 (T : Tab) (I : Nat → List Int → List Int → Prop) (M : Nat → List Int → List Int → Nat) (pre : Nat → List Int → Prop) (post : List Int → Prop) (v0 v1 : Int) : Prop :=
 ((decide (((IntKind.wrap .i64 (0 - v1)) : Int) ≤ v0) = true →
  post [(if decide ((v0 : Int) ≤ v1) = true then 1 else 0)]) ∧ (decide (((IntKind.wrap .i64 (0 - v1)) : Int) ≤ v0) = false →
  post [0]))
theorem q61 (T : Tab) (I : Nat → List Int → List Int → Prop) (M : Nat → List Int → List Int → Nat) (pre : Nat → List Int → Prop) (post : List Int → Prop) (v0 v1 : Int) : t61.plain T (presL pre I M) post ⟨[v0, v1], []⟩ = p61 T I M pre post v0 v1 := by kernel_rfl
theorem k61 (T : Tab) (I : Nat → List Int → List Int → Prop) (M : Nat → List Int → List Int → Nat) (pre : Nat → List Int → Prop) (hs : SubSig T c61.sigs) (ht : Tot pre c61.sigs) (hg : T.sig 61 = some s61) (hC : CtAll Try.prog T.fns (pres pre) c61.sigs)
    (h : ∀ (v0 v1 : Int), ((-9223372036854775808) ≤ v0 ∧ v0 ≤ 9223372036854775807) → ((-9223372036854775808) ≤ v1 ∧ v1 ≤ 9223372036854775807) → pre 61 [v0, v1] → p61 T I M pre (fun ys => ys = T.fn 61 [v0, v1]) v0 v1) : CT Try.prog T.fns (pres pre) 61 s61 :=
  T.ctq (F := ⟨c61, []⟩) (fuel := 250) vc61 Try.checked.mixed hs ht hg hC Try.func61 I M (fun _ h _ => h) fun xs hx hp => by
    match xs, hx, hp with
    | [v0, v1], hx, hp => rw [q61]; exact h v0 v1 hx.1 hx.2.1 hp

/-- loop.example/g01242/impl.MakeRatio -/
noncomputable def c21 : Cfg := ⟨Try.prog, [(61, s61), (62, s62)]⟩
def iv21 : List Iv := [⟨(-9223372036854775808), 9223372036854775807⟩, ⟨(-9223372036854775808), 9223372036854775807⟩]
def t21 : VC :=
 (.call 61 (.e (.var 0) (.e (.lit 1000000000000000000) .nil)) 1
 (.ite (.eq (.var 2) (.lit 1))
  (.call 61 (.e (.var 1) (.e (.lit 1000000000000000000) .nil)) 1
  (.ite (.not (.eq (.var 3) (.lit 1)))
   (.fin (.e (.lit 0) (.e (.lit 0) (.e (.lit 3) .nil))))
   (.ite (.eq (.var 1) (.lit 0))
    (.fin (.e (.lit 0) (.e (.lit 0) (.e (.lit 4) .nil))))
    (.need [(.pre 62 (.e (.var 0) (.e (.var 1) .nil)))]
    (.call 62 (.e (.var 0) (.e (.var 1) .nil)) 1
    (.ite (.lt (.var 1) (.lit 0))
     (.bind (.wrap .i64 (.sub (.lit 0) (.var 4)))
     (.need [(.b (.not (.eq (.var 5) (.lit 0)))), (.b (.not (.eq (.var 5) (.lit 0))))]
     (.bind (.wrap .i64 (.tdiv (.var 0) (.var 5)))
     (.bind (.wrap .i64 (.tdiv (.var 1) (.var 5)))
     (.call 61 (.e (.var 6) (.e (.lit 2147483648) .nil)) 1
     (.ite (.eq (.var 8) (.lit 1))
      (.ite (.lt (.lit 2147483648) (.var 7))
       (.fin (.e (.lit 0) (.e (.lit 0) (.e (.lit 3) .nil))))
       (.fin (.e (.var 6) (.e (.var 7) (.e (.lit 0) .nil)))))
      (.fin (.e (.lit 0) (.e (.lit 0) (.e (.lit 3) .nil))))))))))
     (.need [(.b (.not (.eq (.var 4) (.lit 0)))), (.b (.not (.eq (.var 4) (.lit 0))))]
     (.bind (.wrap .i64 (.tdiv (.var 0) (.var 4)))
     (.bind (.wrap .i64 (.div (.var 1) (.var 4)))
     (.call 61 (.e (.var 5) (.e (.lit 2147483648) .nil)) 1
     (.ite (.eq (.var 7) (.lit 1))
      (.ite (.lt (.lit 2147483648) (.var 6))
       (.fin (.e (.lit 0) (.e (.lit 0) (.e (.lit 3) .nil))))
       (.fin (.e (.var 5) (.e (.var 6) (.e (.lit 0) .nil)))))
      (.fin (.e (.lit 0) (.e (.lit 0) (.e (.lit 3) .nil)))))))))))))))
  (.fin (.e (.lit 0) (.e (.lit 0) (.e (.lit 3) .nil))))))
theorem vc21 : vcOfI ⟨c21, []⟩ iv21 250 Try.f21 s21 = t21 := by kernel_rfl
set_option linter.unusedVariables false in
def p21 (T : Tab) (I : Nat → List Int → List Int → Prop) (M : Nat → List Int → List Int → Nat) (pre : Nat → List Int → Prop) (post : List Int → Prop) (v0 v1 : Int) : Prop :=
 ∀ v2 : Int, [v2] = T.out 61 1 [v0, 1000000000000000000] →
 ((decide ((v2 : Int) = 1) = true →
  ∀ v3 : Int, [v3] = T.out 61 1 [v1, 1000000000000000000] →
  (((!decide ((v3 : Int) = 1)) = true →
   post [0, 0, 3]) ∧ ((!decide ((v3 : Int) = 1)) = false →
   ((decide ((v1 : Int) = 0) = true →
    post [0, 0, 4]) ∧ (decide ((v1 : Int) = 0) = false →
    ((pre 62 [v0, v1]) ∧ ((pre 62 [v0, v1]) →
    ∀ v4 : Int, [v4] = T.out 62 1 [v0, v1] →
    ((decide ((v1 : Int) < 0) = true →
     ∀ v5 : Int, v5 = (IntKind.wrap .i64 (0 - v4)) →
     (((!decide ((v5 : Int) = 0)) = true ∧ (!decide ((v5 : Int) = 0)) = true) ∧ (((!decide ((v5 : Int) = 0)) = true ∧ (!decide ((v5 : Int) = 0)) = true) →
     ∀ v6 : Int, v6 = (IntKind.wrap .i64 (Int.tdiv v0 v5)) →
     ∀ v7 : Int, v7 = (IntKind.wrap .i64 (Int.tdiv v1 v5)) →
     ∀ v8 : Int, [v8] = T.out 61 1 [v6, 2147483648] →
     ((decide ((v8 : Int) = 1) = true →
      ((decide ((2147483648 : Int) < v7) = true →
       post [0, 0, 3]) ∧ (decide ((2147483648 : Int) < v7) = false →
       post [v6, v7, 0]))) ∧ (decide ((v8 : Int) = 1) = false →
      post [0, 0, 3]))))) ∧ (decide ((v1 : Int) < 0) = false →
     (((!decide ((v4 : Int) = 0)) = true ∧ (!decide ((v4 : Int) = 0)) = true) ∧ (((!decide ((v4 : Int) = 0)) = true ∧ (!decide ((v4 : Int) = 0)) = true) →
     ∀ v5 : Int, v5 = (IntKind.wrap .i64 (Int.tdiv v0 v4)) →
     ∀ v6 : Int, v6 = (IntKind.wrap .i64 (v1 / v4)) →
     ∀ v7 : Int, [v7] = T.out 61 1 [v5, 2147483648] →
     ((decide ((v7 : Int) = 1) = true →
      ((decide ((2147483648 : Int) < v6) = true →
       post [0, 0, 3]) ∧ (decide ((2147483648 : Int) < v6) = false →
       post [v5, v6, 0]))) ∧ (decide ((v7 : Int) = 1) = false →
      post [0, 0, 3]))))))))))))) ∧ (decide ((v2 : Int) = 1) = false →
  post [0, 0, 3]))
theorem q21 (T : Tab) (I : Nat → List Int → List Int → Prop) (M : Nat → List Int → List Int → Nat) (pre : Nat → List Int → Prop) (post : List Int → Prop) (v0 v1 : Int) : t21.plain T (presL pre I M) post ⟨[v0, v1], []⟩ = p21 T I M pre post v0 v1 := by kernel_rfl
theorem k21 (T : Tab) (I : Nat → List Int → List Int → Prop) (M : Nat → List Int → List Int → Nat) (pre : Nat → List Int → Prop) (hs : SubSig T c21.sigs) (ht : Tot pre c21.sigs) (hg : T.sig 21 = some s21) (hC : CtAll Try.prog T.fns (pres pre) c21.sigs)
    (h : ∀ (v0 v1 : Int), ((-9223372036854775808) ≤ v0 ∧ v0 ≤ 9223372036854775807) → ((-9223372036854775808) ≤ v1 ∧ v1 ≤ 9223372036854775807) → pre 21 [v0, v1] → p21 T I M pre (fun ys => ys = T.fn 21 [v0, v1]) v0 v1) : CT Try.prog T.fns (pres pre) 21 s21 :=
  T.ctq (F := ⟨c21, []⟩) (fuel := 250) vc21 Try.checked.mixed hs ht hg hC Try.func21 I M (fun _ h _ => h) fun xs hx hp => by
    match xs, hx, hp with
    | [v0, v1], hx, hp => rw [q21]; exact h v0 v1 hx.1 hx.2.1 hp

/-- loop.example/g01242/spec.l03Make -/
noncomputable def c60 : Cfg := ⟨Try.prog, [(91, s91), (58, s58)]⟩
def iv60 : List Iv := [⟨(-9223372036854775808), 9223372036854775807⟩, ⟨(-9223372036854775808), 9223372036854775807⟩]
def t60 : VC :=
 (.need [(.pre 91 (.e (.var 0) (.e (.var 1) .nil)))]
 (.call 91 (.e (.var 0) (.e (.var 1) .nil)) 1
 (.ite (.lt (.var 1) (.lit 0))
  (.bind (.wrap .i64 (.sub (.lit 0) (.var 2)))
  (.need [(.b (.not (.eq (.var 3) (.lit 0)))), (.b (.not (.eq (.var 3) (.lit 0))))]
  (.bind (.wrap .i64 (.tdiv (.var 0) (.var 3)))
  (.bind (.wrap .i64 (.tdiv (.var 1) (.var 3)))
  (.call 58 (.e (.var 4) (.e (.var 5) .nil)) 1
  (.ite (.not (.eq (.var 6) (.lit 1)))
   (.fin (.e (.lit 0) (.e (.lit 0) (.e (.lit 3) .nil))))
   (.fin (.e (.var 4) (.e (.var 5) (.e (.lit 0) .nil))))))))))
  (.need [(.b (.not (.eq (.var 2) (.lit 0)))), (.b (.not (.eq (.var 2) (.lit 0))))]
  (.bind (.wrap .i64 (.tdiv (.var 0) (.var 2)))
  (.bind (.wrap .i64 (.div (.var 1) (.var 2)))
  (.call 58 (.e (.var 3) (.e (.var 4) .nil)) 1
  (.ite (.not (.eq (.var 5) (.lit 1)))
   (.fin (.e (.lit 0) (.e (.lit 0) (.e (.lit 3) .nil))))
   (.fin (.e (.var 3) (.e (.var 4) (.e (.lit 0) .nil))))))))))))
theorem vc60 : vcOfI ⟨c60, []⟩ iv60 250 Try.f60 s60 = t60 := by kernel_rfl
set_option linter.unusedVariables false in
def p60 (T : Tab) (I : Nat → List Int → List Int → Prop) (M : Nat → List Int → List Int → Nat) (pre : Nat → List Int → Prop) (post : List Int → Prop) (v0 v1 : Int) : Prop :=
 ((pre 91 [v0, v1]) ∧ ((pre 91 [v0, v1]) →
 ∀ v2 : Int, [v2] = T.out 91 1 [v0, v1] →
 ((decide ((v1 : Int) < 0) = true →
  ∀ v3 : Int, v3 = (IntKind.wrap .i64 (0 - v2)) →
  (((!decide ((v3 : Int) = 0)) = true ∧ (!decide ((v3 : Int) = 0)) = true) ∧ (((!decide ((v3 : Int) = 0)) = true ∧ (!decide ((v3 : Int) = 0)) = true) →
  ∀ v4 : Int, v4 = (IntKind.wrap .i64 (Int.tdiv v0 v3)) →
  ∀ v5 : Int, v5 = (IntKind.wrap .i64 (Int.tdiv v1 v3)) →
  ∀ v6 : Int, [v6] = T.out 58 1 [v4, v5] →
  (((!decide ((v6 : Int) = 1)) = true →
   post [0, 0, 3]) ∧ ((!decide ((v6 : Int) = 1)) = false →
   post [v4, v5, 0]))))) ∧ (decide ((v1 : Int) < 0) = false →
  (((!decide ((v2 : Int) = 0)) = true ∧ (!decide ((v2 : Int) = 0)) = true) ∧ (((!decide ((v2 : Int) = 0)) = true ∧ (!decide ((v2 : Int) = 0)) = true) →
  ∀ v3 : Int, v3 = (IntKind.wrap .i64 (Int.tdiv v0 v2)) →
  ∀ v4 : Int, v4 = (IntKind.wrap .i64 (v1 / v2)) →
  ∀ v5 : Int, [v5] = T.out 58 1 [v3, v4] →
  (((!decide ((v5 : Int) = 1)) = true →
   post [0, 0, 3]) ∧ ((!decide ((v5 : Int) = 1)) = false →
   post [v3, v4, 0]))))))))
theorem q60 (T : Tab) (I : Nat → List Int → List Int → Prop) (M : Nat → List Int → List Int → Nat) (pre : Nat → List Int → Prop) (post : List Int → Prop) (v0 v1 : Int) : t60.plain T (presL pre I M) post ⟨[v0, v1], []⟩ = p60 T I M pre post v0 v1 := by kernel_rfl
theorem k60 (T : Tab) (I : Nat → List Int → List Int → Prop) (M : Nat → List Int → List Int → Nat) (pre : Nat → List Int → Prop) (hs : SubSig T c60.sigs) (ht : Tot pre c60.sigs) (hg : T.sig 60 = some s60) (hC : CtAll Try.prog T.fns (pres pre) c60.sigs) (hi : ∀ xs, pre 60 xs → allHas iv60 xs)
    (h : ∀ (v0 v1 : Int), ((-9223372036854775808) ≤ v0 ∧ v0 ≤ 9223372036854775807) → ((-9223372036854775808) ≤ v1 ∧ v1 ≤ 9223372036854775807) → pre 60 [v0, v1] → p60 T I M pre (fun ys => ys = T.fn 60 [v0, v1]) v0 v1) : CT Try.prog T.fns (pres pre) 60 s60 :=
  T.ctq (F := ⟨c60, []⟩) (fuel := 250) vc60 Try.checked.mixed hs ht hg hC Try.func60 I M (fun xs _ h => hi xs h) fun xs hx hp => by
    match xs, hx, hp with
    | [v0, v1], hx, hp => rw [q60]; exact h v0 v1 hx.1 hx.2.1 hp

/-- loop.example/g01242/spec.l03Ratio -/
noncomputable def c58 : Cfg := ⟨Try.prog, [(59, s59), (91, s91)]⟩
def iv58 : List Iv := [⟨(-9223372036854775808), 9223372036854775807⟩, ⟨(-9223372036854775808), 9223372036854775807⟩]
def t58 : VC :=
 (.ite (.eq (.app 59 0 (.e (.var 1) (.e (.lit 1) (.e (.lit 2147483648) .nil)))) (.lit 1))
  (.ite (.eq (.app 59 0 (.e (.var 0) (.e (.lit (-2147483648)) (.e (.lit 2147483648) .nil)))) (.lit 1))
   (.need [(.pre 91 (.e (.var 0) (.e (.var 1) .nil)))]
   (.call 59 (.e (.var 1) (.e (.lit 1) (.e (.lit 2147483648) .nil))) 1
   (.call 59 (.e (.var 0) (.e (.lit (-2147483648)) (.e (.lit 2147483648) .nil))) 1
   (.call 91 (.e (.var 0) (.e (.var 1) .nil)) 1
   (.fin (.e (.ite (.eq (.var 4) (.lit 1)) (.lit 1) (.lit 0)) .nil))))))
   (.call 59 (.e (.var 1) (.e (.lit 1) (.e (.lit 2147483648) .nil))) 1
   (.call 59 (.e (.var 0) (.e (.lit (-2147483648)) (.e (.lit 2147483648) .nil))) 1
   (.fin (.e (.lit 0) .nil)))))
  (.call 59 (.e (.var 1) (.e (.lit 1) (.e (.lit 2147483648) .nil))) 1
  (.fin (.e (.lit 0) .nil))))
theorem vc58 : vcOfI ⟨c58, []⟩ iv58 250 Try.f58 s58 = t58 := by kernel_rfl
set_option linter.unusedVariables false in
def p58 (T : Tab) (I : Nat → List Int → List Int → Prop) (M : Nat → List Int → List Int → Nat) (pre : Nat → List Int → Prop) (post : List Int → Prop) (v0 v1 : Int) : Prop :=
 ((decide (((List.getD (T.fns 59 [v1, 1, 2147483648] []).1 0 0) : Int) = 1) = true →
  ((decide (((List.getD (T.fns 59 [v0, (-2147483648), 2147483648] []).1 0 0) : Int) = 1) = true →
   ((pre 91 [v0, v1]) ∧ ((pre 91 [v0, v1]) →
   ∀ v2 : Int, [v2] = T.out 59 1 [v1, 1, 2147483648] →
   ∀ v3 : Int, [v3] = T.out 59 1 [v0, (-2147483648), 2147483648] →
   ∀ v4 : Int, [v4] = T.out 91 1 [v0, v1] →
   post [(if decide ((v4 : Int) = 1) = true then 1 else 0)]))) ∧ (decide (((List.getD (T.fns 59 [v0, (-2147483648), 2147483648] []).1 0 0) : Int) = 1) = false →
   ∀ v2 : Int, [v2] = T.out 59 1 [v1, 1, 2147483648] →
   ∀ v3 : Int, [v3] = T.out 59 1 [v0, (-2147483648), 2147483648] →
   post [0]))) ∧ (decide (((List.getD (T.fns 59 [v1, 1, 2147483648] []).1 0 0) : Int) = 1) = false →
  ∀ v2 : Int, [v2] = T.out 59 1 [v1, 1, 2147483648] →
  post [0]))
theorem q58 (T : Tab) (I : Nat → List Int → List Int → Prop) (M : Nat → List Int → List Int → Nat) (pre : Nat → List Int → Prop) (post : List Int → Prop) (v0 v1 : Int) : t58.plain T (presL pre I M) post ⟨[v0, v1], []⟩ = p58 T I M pre post v0 v1 := by kernel_rfl
theorem k58 (T : Tab) (I : Nat → List Int → List Int → Prop) (M : Nat → List Int → List Int → Nat) (pre : Nat → List Int → Prop) (hs : SubSig T c58.sigs) (ht : Tot pre c58.sigs) (hg : T.sig 58 = some s58) (hC : CtAll Try.prog T.fns (pres pre) c58.sigs)
    (h : ∀ (v0 v1 : Int), ((-9223372036854775808) ≤ v0 ∧ v0 ≤ 9223372036854775807) → ((-9223372036854775808) ≤ v1 ∧ v1 ≤ 9223372036854775807) → pre 58 [v0, v1] → p58 T I M pre (fun ys => ys = T.fn 58 [v0, v1]) v0 v1) : CT Try.prog T.fns (pres pre) 58 s58 :=
  T.ctq (F := ⟨c58, []⟩) (fuel := 250) vc58 Try.checked.mixed hs ht hg hC Try.func58 I M (fun _ h _ => h) fun xs hx hp => by
    match xs, hx, hp with
    | [v0, v1], hx, hp => rw [q58]; exact h v0 v1 hx.1 hx.2.1 hp

/-- loop.example/g01242/spec.MakeRatio -/
noncomputable def c20 : Cfg := ⟨Try.prog, [(59, s59), (60, s60)]⟩
def iv20 : List Iv := [⟨(-9223372036854775808), 9223372036854775807⟩, ⟨(-9223372036854775808), 9223372036854775807⟩]
def t20 : VC :=
 (.call 59 (.e (.var 0) (.e (.lit (-1000000000000000000)) (.e (.lit 1000000000000000000) .nil))) 1
 (.ite (.eq (.var 2) (.lit 1))
  (.call 59 (.e (.var 1) (.e (.lit (-1000000000000000000)) (.e (.lit 1000000000000000000) .nil))) 1
  (.ite (.not (.eq (.var 3) (.lit 1)))
   (.fin (.e (.lit 0) (.e (.lit 0) (.e (.lit 3) .nil))))
   (.ite (.eq (.var 1) (.lit 0))
    (.fin (.e (.lit 0) (.e (.lit 0) (.e (.lit 4) .nil))))
    (.need [(.pre 60 (.e (.var 0) (.e (.var 1) .nil)))]
    (.call 60 (.e (.var 0) (.e (.var 1) .nil)) 3
    (.fin (.e (.var 4) (.e (.var 5) (.e (.var 6) .nil)))))))))
  (.fin (.e (.lit 0) (.e (.lit 0) (.e (.lit 3) .nil))))))
theorem vc20 : vcOfI ⟨c20, []⟩ iv20 250 Try.f20 s20 = t20 := by kernel_rfl
set_option linter.unusedVariables false in
def p20 (T : Tab) (I : Nat → List Int → List Int → Prop) (M : Nat → List Int → List Int → Nat) (pre : Nat → List Int → Prop) (post : List Int → Prop) (v0 v1 : Int) : Prop :=
 ∀ v2 : Int, [v2] = T.out 59 1 [v0, (-1000000000000000000), 1000000000000000000] →
 ((decide ((v2 : Int) = 1) = true →
  ∀ v3 : Int, [v3] = T.out 59 1 [v1, (-1000000000000000000), 1000000000000000000] →
  (((!decide ((v3 : Int) = 1)) = true →
   post [0, 0, 3]) ∧ ((!decide ((v3 : Int) = 1)) = false →
   ((decide ((v1 : Int) = 0) = true →
    post [0, 0, 4]) ∧ (decide ((v1 : Int) = 0) = false →
    ((pre 60 [v0, v1]) ∧ ((pre 60 [v0, v1]) →
    ∀ v4 v5 v6 : Int, [v4, v5, v6] = T.out 60 3 [v0, v1] →
    post [v4, v5, v6]))))))) ∧ (decide ((v2 : Int) = 1) = false →
  post [0, 0, 3]))
theorem q20 (T : Tab) (I : Nat → List Int → List Int → Prop) (M : Nat → List Int → List Int → Nat) (pre : Nat → List Int → Prop) (post : List Int → Prop) (v0 v1 : Int) : t20.plain T (presL pre I M) post ⟨[v0, v1], []⟩ = p20 T I M pre post v0 v1 := by kernel_rfl
theorem k20 (T : Tab) (I : Nat → List Int → List Int → Prop) (M : Nat → List Int → List Int → Nat) (pre : Nat → List Int → Prop) (hs : SubSig T c20.sigs) (ht : Tot pre c20.sigs) (hg : T.sig 20 = some s20) (hC : CtAll Try.prog T.fns (pres pre) c20.sigs)
    (h : ∀ (v0 v1 : Int), ((-9223372036854775808) ≤ v0 ∧ v0 ≤ 9223372036854775807) → ((-9223372036854775808) ≤ v1 ∧ v1 ≤ 9223372036854775807) → pre 20 [v0, v1] → p20 T I M pre (fun ys => ys = T.fn 20 [v0, v1]) v0 v1) : CT Try.prog T.fns (pres pre) 20 s20 :=
  T.ctq (F := ⟨c20, []⟩) (fuel := 250) vc20 Try.checked.mixed hs ht hg hC Try.func20 I M (fun _ h _ => h) fun xs hx hp => by
    match xs, hx, hp with
    | [v0, v1], hx, hp => rw [q20]; exact h v0 v1 hx.1 hx.2.1 hp

/-- loop.example/g01242/impl.ValidRatio -/
noncomputable def c19 : Cfg := ⟨Try.prog, [(21, s21)]⟩
def iv19 : List Iv := [⟨(-9223372036854775808), 9223372036854775807⟩, ⟨(-9223372036854775808), 9223372036854775807⟩]
def t19 : VC :=
 (.call 21 (.e (.var 0) (.e (.var 1) .nil)) 3
 (.ite (.eq (.var 4) (.lit 0))
  (.bind (.ite (.and (.eq (.var 2) (.var 0)) (.eq (.var 3) (.var 1))) (.lit 1) (.lit 0))
  (.fin (.e (.var 5) .nil)))
  (.fin (.e (.lit 0) .nil))))
theorem vc19 : vcOfI ⟨c19, []⟩ iv19 250 Try.f19 s19 = t19 := by kernel_rfl
set_option linter.unusedVariables false in
def p19 (T : Tab) (I : Nat → List Int → List Int → Prop) (M : Nat → List Int → List Int → Nat) (pre : Nat → List Int → Prop) (post : List Int → Prop) (v0 v1 : Int) : Prop :=
 ∀ v2 v3 v4 : Int, [v2, v3, v4] = T.out 21 3 [v0, v1] →
 ((decide ((v4 : Int) = 0) = true →
  ∀ v5 : Int, v5 = (if (decide ((v2 : Int) = v0) && decide ((v3 : Int) = v1)) = true then 1 else 0) →
  post [v5]) ∧ (decide ((v4 : Int) = 0) = false →
  post [0]))
theorem q19 (T : Tab) (I : Nat → List Int → List Int → Prop) (M : Nat → List Int → List Int → Nat) (pre : Nat → List Int → Prop) (post : List Int → Prop) (v0 v1 : Int) : t19.plain T (presL pre I M) post ⟨[v0, v1], []⟩ = p19 T I M pre post v0 v1 := by kernel_rfl
theorem k19 (T : Tab) (I : Nat → List Int → List Int → Prop) (M : Nat → List Int → List Int → Nat) (pre : Nat → List Int → Prop) (hs : SubSig T c19.sigs) (ht : Tot pre c19.sigs) (hg : T.sig 19 = some s19) (hC : CtAll Try.prog T.fns (pres pre) c19.sigs)
    (h : ∀ (v0 v1 : Int), ((-9223372036854775808) ≤ v0 ∧ v0 ≤ 9223372036854775807) → ((-9223372036854775808) ≤ v1 ∧ v1 ≤ 9223372036854775807) → pre 19 [v0, v1] → p19 T I M pre (fun ys => ys = T.fn 19 [v0, v1]) v0 v1) : CT Try.prog T.fns (pres pre) 19 s19 :=
  T.ctq (F := ⟨c19, []⟩) (fuel := 250) vc19 Try.checked.mixed hs ht hg hC Try.func19 I M (fun _ h _ => h) fun xs hx hp => by
    match xs, hx, hp with
    | [v0, v1], hx, hp => rw [q19]; exact h v0 v1 hx.1 hx.2.1 hp

/-- loop.example/g01242/spec.ValidRatio -/
noncomputable def c17 : Cfg := ⟨Try.prog, [(58, s58)]⟩
def iv17 : List Iv := [⟨(-9223372036854775808), 9223372036854775807⟩, ⟨(-9223372036854775808), 9223372036854775807⟩]
def t17 : VC :=
 (.call 58 (.e (.var 0) (.e (.var 1) .nil)) 1
 (.fin (.e (.var 2) .nil)))
theorem vc17 : vcOfI ⟨c17, []⟩ iv17 250 Try.f17 s17 = t17 := by kernel_rfl
set_option linter.unusedVariables false in
def p17 (T : Tab) (I : Nat → List Int → List Int → Prop) (M : Nat → List Int → List Int → Nat) (pre : Nat → List Int → Prop) (post : List Int → Prop) (v0 v1 : Int) : Prop :=
 ∀ v2 : Int, [v2] = T.out 58 1 [v0, v1] →
 post [v2]
theorem q17 (T : Tab) (I : Nat → List Int → List Int → Prop) (M : Nat → List Int → List Int → Nat) (pre : Nat → List Int → Prop) (post : List Int → Prop) (v0 v1 : Int) : t17.plain T (presL pre I M) post ⟨[v0, v1], []⟩ = p17 T I M pre post v0 v1 := by kernel_rfl
theorem k17 (T : Tab) (I : Nat → List Int → List Int → Prop) (M : Nat → List Int → List Int → Nat) (pre : Nat → List Int → Prop) (hs : SubSig T c17.sigs) (ht : Tot pre c17.sigs) (hg : T.sig 17 = some s17) (hC : CtAll Try.prog T.fns (pres pre) c17.sigs)
    (h : ∀ (v0 v1 : Int), ((-9223372036854775808) ≤ v0 ∧ v0 ≤ 9223372036854775807) → ((-9223372036854775808) ≤ v1 ∧ v1 ≤ 9223372036854775807) → pre 17 [v0, v1] → p17 T I M pre (fun ys => ys = T.fn 17 [v0, v1]) v0 v1) : CT Try.prog T.fns (pres pre) 17 s17 :=
  T.ctq (F := ⟨c17, []⟩) (fuel := 250) vc17 Try.checked.mixed hs ht hg hC Try.func17 I M (fun _ h _ => h) fun xs hx hp => by
    match xs, hx, hp with
    | [v0, v1], hx, hp => rw [q17]; exact h v0 v1 hx.1 hx.2.1 hp

/-- loop.example/g01242/spec.l03Order -/
noncomputable def c63 : Cfg := ⟨Try.prog, []⟩
def iv63 : List Iv := [⟨(-9223372036854775808), 9223372036854775807⟩, ⟨(-9223372036854775808), 9223372036854775807⟩, ⟨(-9223372036854775808), 9223372036854775807⟩, ⟨(-9223372036854775808), 9223372036854775807⟩]
def t63 : VC :=
 (.bind (.wrap .i64 (.mul (.var 0) (.var 3)))
 (.bind (.wrap .i64 (.mul (.var 2) (.var 1)))
 (.ite (.lt (.var 4) (.var 5))
  (.fin (.e (.lit (-1)) .nil))
  (.ite (.lt (.var 5) (.var 4))
   (.fin (.e (.lit 1) .nil))
   (.fin (.e (.lit 0) .nil))))))
theorem vc63 : vcOfI ⟨c63, []⟩ iv63 250 Try.f63 s63 = t63 := by kernel_rfl
set_option linter.unusedVariables false in
def p63 (T : Tab) (I : Nat → List Int → List Int → Prop) (M : Nat → List Int → List Int → Nat) (pre : Nat → List Int → Prop) (post : List Int → Prop) (v0 v1 v2 v3 : Int) : Prop :=
 ∀ v4 : Int, v4 = (IntKind.wrap .i64 (v0 * v3)) →
 ∀ v5 : Int, v5 = (IntKind.wrap .i64 (v2 * v1)) →
 ((decide ((v4 : Int) < v5) = true →
  post [(-1)]) ∧ (decide ((v4 : Int) < v5) = false →
  ((decide ((v5 : Int) < v4) = true →
   post [1]) ∧ (decide ((v5 : Int) < v4) = false →
   post [0]))))
theorem q63 (T : Tab) (I : Nat → List Int → List Int → Prop) (M : Nat → List Int → List Int → Nat) (pre : Nat → List Int → Prop) (post : List Int → Prop) (v0 v1 v2 v3 : Int) : t63.plain T (presL pre I M) post ⟨[v0, v1, v2, v3], []⟩ = p63 T I M pre post v0 v1 v2 v3 := by kernel_rfl
theorem k63 (T : Tab) (I : Nat → List Int → List Int → Prop) (M : Nat → List Int → List Int → Nat) (pre : Nat → List Int → Prop) (hs : SubSig T c63.sigs) (ht : Tot pre c63.sigs) (hg : T.sig 63 = some s63) (hC : CtAll Try.prog T.fns (pres pre) c63.sigs)
    (h : ∀ (v0 v1 v2 v3 : Int), ((-9223372036854775808) ≤ v0 ∧ v0 ≤ 9223372036854775807) → ((-9223372036854775808) ≤ v1 ∧ v1 ≤ 9223372036854775807) → ((-9223372036854775808) ≤ v2 ∧ v2 ≤ 9223372036854775807) → ((-9223372036854775808) ≤ v3 ∧ v3 ≤ 9223372036854775807) → pre 63 [v0, v1, v2, v3] → p63 T I M pre (fun ys => ys = T.fn 63 [v0, v1, v2, v3]) v0 v1 v2 v3) : CT Try.prog T.fns (pres pre) 63 s63 :=
  T.ctq (F := ⟨c63, []⟩) (fuel := 250) vc63 Try.checked.mixed hs ht hg hC Try.func63 I M (fun _ h _ => h) fun xs hx hp => by
    match xs, hx, hp with
    | [v0, v1, v2, v3], hx, hp => rw [q63]; exact h v0 v1 v2 v3 hx.1 hx.2.1 hx.2.2.1 hx.2.2.2.1 hp

/-- (loop.example/g01242/impl.Ratio).order -/
noncomputable def c64 : Cfg := ⟨Try.prog, [(92, s92)]⟩
def iv64 : List Iv := [⟨(-9223372036854775808), 9223372036854775807⟩, ⟨(-9223372036854775808), 9223372036854775807⟩, ⟨(-9223372036854775808), 9223372036854775807⟩, ⟨(-9223372036854775808), 9223372036854775807⟩]
def t64 : VC :=
 (.call 92 (.e (.wrap .i64 (.mul (.var 0) (.var 3))) (.e (.wrap .i64 (.mul (.var 2) (.var 1))) .nil)) 1
 (.fin (.e (.var 4) .nil)))
theorem vc64 : vcOfI ⟨c64, []⟩ iv64 250 Try.f64 s64 = t64 := by kernel_rfl
set_option linter.unusedVariables false in
def p64 (T : Tab) (I : Nat → List Int → List Int → Prop) (M : Nat → List Int → List Int → Nat) (pre : Nat → List Int → Prop) (post : List Int → Prop) (v0 v1 v2 v3 : Int) : Prop :=
 ∀ v4 : Int, [v4] = T.out 92 1 [(IntKind.wrap .i64 (v0 * v3)), (IntKind.wrap .i64 (v2 * v1))] →
 post [v4]
theorem q64 (T : Tab) (I : Nat → List Int → List Int → Prop) (M : Nat → List Int → List Int → Nat) (pre : Nat → List Int → Prop) (post : List Int → Prop) (v0 v1 v2 v3 : Int) : t64.plain T (presL pre I M) post ⟨[v0, v1, v2, v3], []⟩ = p64 T I M pre post v0 v1 v2 v3 := by kernel_rfl
theorem k64 (T : Tab) (I : Nat → List Int → List Int → Prop) (M : Nat → List Int → List Int → Nat) (pre : Nat → List Int → Prop) (hs : SubSig T c64.sigs) (ht : Tot pre c64.sigs) (hg : T.sig 64 = some s64) (hC : CtAll Try.prog T.fns (pres pre) c64.sigs)
    (h : ∀ (v0 v1 v2 v3 : Int), ((-9223372036854775808) ≤ v0 ∧ v0 ≤ 9223372036854775807) → ((-9223372036854775808) ≤ v1 ∧ v1 ≤ 9223372036854775807) → ((-9223372036854775808) ≤ v2 ∧ v2 ≤ 9223372036854775807) → ((-9223372036854775808) ≤ v3 ∧ v3 ≤ 9223372036854775807) → pre 64 [v0, v1, v2, v3] → p64 T I M pre (fun ys => ys = T.fn 64 [v0, v1, v2, v3]) v0 v1 v2 v3) : CT Try.prog T.fns (pres pre) 64 s64 :=
  T.ctq (F := ⟨c64, []⟩) (fuel := 250) vc64 Try.checked.mixed hs ht hg hC Try.func64 I M (fun _ h _ => h) fun xs hx hp => by
    match xs, hx, hp with
    | [v0, v1, v2, v3], hx, hp => rw [q64]; exact h v0 v1 v2 v3 hx.1 hx.2.1 hx.2.2.1 hx.2.2.2.1 hp

/-- loop.example/g01242/impl.CompareRatios -/
noncomputable def c24 : Cfg := ⟨Try.prog, [(19, s19), (64, s64)]⟩
def iv24 : List Iv := [⟨(-9223372036854775808), 9223372036854775807⟩, ⟨(-9223372036854775808), 9223372036854775807⟩, ⟨(-9223372036854775808), 9223372036854775807⟩, ⟨(-9223372036854775808), 9223372036854775807⟩]
def t24 : VC :=
 (.call 19 (.e (.var 0) (.e (.var 1) .nil)) 1
 (.ite (.eq (.var 4) (.lit 1))
  (.call 19 (.e (.var 2) (.e (.var 3) .nil)) 1
  (.ite (.not (.eq (.var 5) (.lit 1)))
   (.fin (.e (.lit 0) (.e (.lit 1) .nil)))
   (.call 64 (.e (.var 0) (.e (.var 1) (.e (.var 2) (.e (.var 3) .nil)))) 1
   (.fin (.e (.var 6) (.e (.lit 0) .nil))))))
  (.fin (.e (.lit 0) (.e (.lit 1) .nil)))))
theorem vc24 : vcOfI ⟨c24, []⟩ iv24 250 Try.f24 s24 = t24 := by kernel_rfl
set_option linter.unusedVariables false in
def p24 (T : Tab) (I : Nat → List Int → List Int → Prop) (M : Nat → List Int → List Int → Nat) (pre : Nat → List Int → Prop) (post : List Int → Prop) (v0 v1 v2 v3 : Int) : Prop :=
 ∀ v4 : Int, [v4] = T.out 19 1 [v0, v1] →
 ((decide ((v4 : Int) = 1) = true →
  ∀ v5 : Int, [v5] = T.out 19 1 [v2, v3] →
  (((!decide ((v5 : Int) = 1)) = true →
   post [0, 1]) ∧ ((!decide ((v5 : Int) = 1)) = false →
   ∀ v6 : Int, [v6] = T.out 64 1 [v0, v1, v2, v3] →
   post [v6, 0]))) ∧ (decide ((v4 : Int) = 1) = false →
  post [0, 1]))
theorem q24 (T : Tab) (I : Nat → List Int → List Int → Prop) (M : Nat → List Int → List Int → Nat) (pre : Nat → List Int → Prop) (post : List Int → Prop) (v0 v1 v2 v3 : Int) : t24.plain T (presL pre I M) post ⟨[v0, v1, v2, v3], []⟩ = p24 T I M pre post v0 v1 v2 v3 := by kernel_rfl
theorem k24 (T : Tab) (I : Nat → List Int → List Int → Prop) (M : Nat → List Int → List Int → Nat) (pre : Nat → List Int → Prop) (hs : SubSig T c24.sigs) (ht : Tot pre c24.sigs) (hg : T.sig 24 = some s24) (hC : CtAll Try.prog T.fns (pres pre) c24.sigs)
    (h : ∀ (v0 v1 v2 v3 : Int), ((-9223372036854775808) ≤ v0 ∧ v0 ≤ 9223372036854775807) → ((-9223372036854775808) ≤ v1 ∧ v1 ≤ 9223372036854775807) → ((-9223372036854775808) ≤ v2 ∧ v2 ≤ 9223372036854775807) → ((-9223372036854775808) ≤ v3 ∧ v3 ≤ 9223372036854775807) → pre 24 [v0, v1, v2, v3] → p24 T I M pre (fun ys => ys = T.fn 24 [v0, v1, v2, v3]) v0 v1 v2 v3) : CT Try.prog T.fns (pres pre) 24 s24 :=
  T.ctq (F := ⟨c24, []⟩) (fuel := 250) vc24 Try.checked.mixed hs ht hg hC Try.func24 I M (fun _ h _ => h) fun xs hx hp => by
    match xs, hx, hp with
    | [v0, v1, v2, v3], hx, hp => rw [q24]; exact h v0 v1 v2 v3 hx.1 hx.2.1 hx.2.2.1 hx.2.2.2.1 hp

/-- loop.example/g01242/spec.CompareRatios -/
noncomputable def c23 : Cfg := ⟨Try.prog, [(58, s58), (63, s63)]⟩
def iv23 : List Iv := [⟨(-9223372036854775808), 9223372036854775807⟩, ⟨(-9223372036854775808), 9223372036854775807⟩, ⟨(-9223372036854775808), 9223372036854775807⟩, ⟨(-9223372036854775808), 9223372036854775807⟩]
def t23 : VC :=
 (.call 58 (.e (.var 0) (.e (.var 1) .nil)) 1
 (.ite (.eq (.var 4) (.lit 1))
  (.call 58 (.e (.var 2) (.e (.var 3) .nil)) 1
  (.ite (.not (.eq (.var 5) (.lit 1)))
   (.fin (.e (.lit 0) (.e (.lit 1) .nil)))
   (.call 63 (.e (.var 0) (.e (.var 1) (.e (.var 2) (.e (.var 3) .nil)))) 1
   (.fin (.e (.var 6) (.e (.lit 0) .nil))))))
  (.fin (.e (.lit 0) (.e (.lit 1) .nil)))))
theorem vc23 : vcOfI ⟨c23, []⟩ iv23 250 Try.f23 s23 = t23 := by kernel_rfl
set_option linter.unusedVariables false in
def p23 (T : Tab) (I : Nat → List Int → List Int → Prop) (M : Nat → List Int → List Int → Nat) (pre : Nat → List Int → Prop) (post : List Int → Prop) (v0 v1 v2 v3 : Int) : Prop :=
 ∀ v4 : Int, [v4] = T.out 58 1 [v0, v1] →
 ((decide ((v4 : Int) = 1) = true →
  ∀ v5 : Int, [v5] = T.out 58 1 [v2, v3] →
  (((!decide ((v5 : Int) = 1)) = true →
   post [0, 1]) ∧ ((!decide ((v5 : Int) = 1)) = false →
   ∀ v6 : Int, [v6] = T.out 63 1 [v0, v1, v2, v3] →
   post [v6, 0]))) ∧ (decide ((v4 : Int) = 1) = false →
  post [0, 1]))
theorem q23 (T : Tab) (I : Nat → List Int → List Int → Prop) (M : Nat → List Int → List Int → Nat) (pre : Nat → List Int → Prop) (post : List Int → Prop) (v0 v1 v2 v3 : Int) : t23.plain T (presL pre I M) post ⟨[v0, v1, v2, v3], []⟩ = p23 T I M pre post v0 v1 v2 v3 := by kernel_rfl
theorem k23 (T : Tab) (I : Nat → List Int → List Int → Prop) (M : Nat → List Int → List Int → Nat) (pre : Nat → List Int → Prop) (hs : SubSig T c23.sigs) (ht : Tot pre c23.sigs) (hg : T.sig 23 = some s23) (hC : CtAll Try.prog T.fns (pres pre) c23.sigs)
    (h : ∀ (v0 v1 v2 v3 : Int), ((-9223372036854775808) ≤ v0 ∧ v0 ≤ 9223372036854775807) → ((-9223372036854775808) ≤ v1 ∧ v1 ≤ 9223372036854775807) → ((-9223372036854775808) ≤ v2 ∧ v2 ≤ 9223372036854775807) → ((-9223372036854775808) ≤ v3 ∧ v3 ≤ 9223372036854775807) → pre 23 [v0, v1, v2, v3] → p23 T I M pre (fun ys => ys = T.fn 23 [v0, v1, v2, v3]) v0 v1 v2 v3) : CT Try.prog T.fns (pres pre) 23 s23 :=
  T.ctq (F := ⟨c23, []⟩) (fuel := 250) vc23 Try.checked.mixed hs ht hg hC Try.func23 I M (fun _ h _ => h) fun xs hx hp => by
    match xs, hx, hp with
    | [v0, v1, v2, v3], hx, hp => rw [q23]; exact h v0 v1 v2 v3 hx.1 hx.2.1 hx.2.2.1 hx.2.2.2.1 hp

/-- (loop.example/g01242/impl.Moebius).isWithin -/
noncomputable def c66 : Cfg := ⟨Try.prog, [(61, s61)]⟩
def iv66 : List Iv := [⟨(-9223372036854775808), 9223372036854775807⟩, ⟨(-9223372036854775808), 9223372036854775807⟩, ⟨(-9223372036854775808), 9223372036854775807⟩, ⟨(-9223372036854775808), 9223372036854775807⟩, ⟨(-9223372036854775808), 9223372036854775807⟩]
def t66 : VC :=
 (.call 61 (.e (.var 0) (.e (.var 4) .nil)) 1
 (.ite (.eq (.var 5) (.lit 1))
  (.call 61 (.e (.var 1) (.e (.var 4) .nil)) 1
  (.ite (.eq (.var 6) (.lit 1))
   (.call 61 (.e (.var 2) (.e (.var 4) .nil)) 1
   (.ite (.eq (.var 7) (.lit 1))
    (.call 61 (.e (.var 3) (.e (.var 4) .nil)) 1
    (.fin (.e (.var 8) .nil)))
    (.fin (.e (.lit 0) .nil))))
   (.fin (.e (.lit 0) .nil))))
  (.fin (.e (.lit 0) .nil))))
theorem vc66 : vcOfI ⟨c66, []⟩ iv66 250 Try.f66 s66 = t66 := by kernel_rfl
set_option linter.unusedVariables false in
def p66 (T : Tab) (I : Nat → List Int → List Int → Prop) (M : Nat → List Int → List Int → Nat) (pre : Nat → List Int → Prop) (post : List Int → Prop) (v0 v1 v2 v3 v4 : Int) : Prop :=
 ∀ v5 : Int, [v5] = T.out 61 1 [v0, v4] →
 ((decide ((v5 : Int) = 1) = true →
  ∀ v6 : Int, [v6] = T.out 61 1 [v1, v4] →
  ((decide ((v6 : Int) = 1) = true →
   ∀ v7 : Int, [v7] = T.out 61 1 [v2, v4] →
   ((decide ((v7 : Int) = 1) = true →
    ∀ v8 : Int, [v8] = T.out 61 1 [v3, v4] →
    post [v8]) ∧ (decide ((v7 : Int) = 1) = false →
    post [0]))) ∧ (decide ((v6 : Int) = 1) = false →
   post [0]))) ∧ (decide ((v5 : Int) = 1) = false →
  post [0]))
theorem q66 (T : Tab) (I : Nat → List Int → List Int → Prop) (M : Nat → List Int → List Int → Nat) (pre : Nat → List Int → Prop) (post : List Int → Prop) (v0 v1 v2 v3 v4 : Int) : t66.plain T (presL pre I M) post ⟨[v0, v1, v2, v3, v4], []⟩ = p66 T I M pre post v0 v1 v2 v3 v4 := by kernel_rfl
theorem k66 (T : Tab) (I : Nat → List Int → List Int → Prop) (M : Nat → List Int → List Int → Nat) (pre : Nat → List Int → Prop) (hs : SubSig T c66.sigs) (ht : Tot pre c66.sigs) (hg : T.sig 66 = some s66) (hC : CtAll Try.prog T.fns (pres pre) c66.sigs)
    (h : ∀ (v0 v1 v2 v3 v4 : Int), ((-9223372036854775808) ≤ v0 ∧ v0 ≤ 9223372036854775807) → ((-9223372036854775808) ≤ v1 ∧ v1 ≤ 9223372036854775807) → ((-9223372036854775808) ≤ v2 ∧ v2 ≤ 9223372036854775807) → ((-9223372036854775808) ≤ v3 ∧ v3 ≤ 9223372036854775807) → ((-9223372036854775808) ≤ v4 ∧ v4 ≤ 9223372036854775807) → pre 66 [v0, v1, v2, v3, v4] → p66 T I M pre (fun ys => ys = T.fn 66 [v0, v1, v2, v3, v4]) v0 v1 v2 v3 v4) : CT Try.prog T.fns (pres pre) 66 s66 :=
  T.ctq (F := ⟨c66, []⟩) (fuel := 250) vc66 Try.checked.mixed hs ht hg hC Try.func66 I M (fun _ h _ => h) fun xs hx hp => by
    match xs, hx, hp with
    | [v0, v1, v2, v3, v4], hx, hp => rw [q66]; exact h v0 v1 v2 v3 v4 hx.1 hx.2.1 hx.2.2.1 hx.2.2.2.1 hx.2.2.2.2.1 hp

end Go.Proofs.Ytaknnjlkpepgaaa.Sx
