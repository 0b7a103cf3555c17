/-
  What the symbolic executor asks of these functions, written out by a program of mine, and that it asks just this.
-/
import Derived.Test.YtaknnjlkpepgaaaW1s
import Derived.Test.YtaknnjlkpepgaaaChecked
import Derived.KernelRfl
namespace Go.Proofs.Ytaknnjlkpepgaaa.Sx
open Go Go.RowKit
/-- loop.example/g01242/impl.commonOf -/
noncomputable def c62x : Cfg := ⟨Try.prog, []⟩
def iv62x : List Iv := [⟨(-9223372036854775808), 9223372036854775807⟩, ⟨(-9223372036854775808), 9223372036854775807⟩, ⟨(-9223372036854775808), 9223372036854775807⟩, ⟨(-9223372036854775808), 9223372036854775807⟩]
def t62x : VC :=
 (.loop 0 [(.lit 0), (.var 0)] [⟨(-9223372036854775808), 9223372036854775807⟩, ⟨(-9223372036854775808), 9223372036854775807⟩]
  (.ite (.not (.eq (.var 5) (.lit 0)))
   (.need [(.b (.not (.eq (.var 5) (.lit 0))))]
   (.bind (.tmod (.var 4) (.var 5))
   (.again 0 4 [⟨(-9223372036854775808), 9223372036854775807⟩, ⟨(-9223372036854775808), 9223372036854775807⟩] [(.var 5), (.var 6)])))
   (.loop 0 [(.var 4), (.var 1)] [⟨(-9223372036854775808), 9223372036854775807⟩, ⟨(-9223372036854775808), 9223372036854775807⟩]
    (.ite (.not (.eq (.var 7) (.lit 0)))
     (.need [(.b (.not (.eq (.var 7) (.lit 0))))]
     (.bind (.tmod (.var 6) (.var 7))
     (.again 0 6 [⟨(-9223372036854775808), 9223372036854775807⟩, ⟨(-9223372036854775808), 9223372036854775807⟩] [(.var 7), (.var 8)])))
     (.loop 0 [(.var 6), (.var 2)] [⟨(-9223372036854775808), 9223372036854775807⟩, ⟨(-9223372036854775808), 9223372036854775807⟩]
      (.ite (.not (.eq (.var 9) (.lit 0)))
       (.need [(.b (.not (.eq (.var 9) (.lit 0))))]
       (.bind (.tmod (.var 8) (.var 9))
       (.again 0 8 [⟨(-9223372036854775808), 9223372036854775807⟩, ⟨(-9223372036854775808), 9223372036854775807⟩] [(.var 9), (.var 10)])))
       (.loop 0 [(.var 8), (.var 3)] [⟨(-9223372036854775808), 9223372036854775807⟩, ⟨(-9223372036854775808), 9223372036854775807⟩]
        (.ite (.not (.eq (.var 11) (.lit 0)))
         (.need [(.b (.not (.eq (.var 11) (.lit 0))))]
         (.bind (.tmod (.var 10) (.var 11))
         (.again 0 10 [⟨(-9223372036854775808), 9223372036854775807⟩, ⟨(-9223372036854775808), 9223372036854775807⟩] [(.var 11), (.var 12)])))
         (.bind (.ite (.lt (.var 10) (.wrap .i64 (.sub (.lit 0) (.var 10)))) (.wrap .i64 (.sub (.lit 0) (.var 10))) (.var 10))
         (.fin (.e (.var 12) .nil)))))))))))
theorem vc62x : vcOfI ⟨c62x, [(5, ⟨0, [3, 5], [], [12, 13, 14, 15, 16, 17, 10], [⟨(-9223372036854775808), 9223372036854775807⟩, ⟨(-9223372036854775808), 9223372036854775807⟩]⟩)]⟩ iv62x 250 Try.f62 s62x = t62x := by kernel_rfl
set_option linter.unusedVariables false in
def p62x (T : Tab) (I : Nat → List Int → List Int → Prop) (M : Nat → List Int → List Int → Nat) (pre : Nat → List Int → Prop) (post : List Int → Prop) (v0 v1 v2 v3 : Int) : Prop :=
 ((allHas [⟨(-9223372036854775808), 9223372036854775807⟩, ⟨(-9223372036854775808), 9223372036854775807⟩] [0, v0] ∧ I 0 [v0, v1, v2, v3] [0, v0]) ∧ ∀ v4 v5 : Int, allHas [⟨(-9223372036854775808), 9223372036854775807⟩, ⟨(-9223372036854775808), 9223372036854775807⟩] [v4, v5] → I 0 [v0, v1, v2, v3] [v4, v5] →
  (((!decide ((v5 : Int) = 0)) = true →
   (((!decide ((v5 : Int) = 0)) = true) ∧ (((!decide ((v5 : Int) = 0)) = true) →
   ∀ v6 : Int, v6 = (Int.tmod v4 v5) →
   (allHas [⟨(-9223372036854775808), 9223372036854775807⟩, ⟨(-9223372036854775808), 9223372036854775807⟩] [v5, v6] ∧ I 0 [v0, v1, v2, v3] [v5, v6] ∧ M 0 [v0, v1, v2, v3] [v5, v6] < M 0 [v0, v1, v2, v3] [v4, v5])))) ∧ ((!decide ((v5 : Int) = 0)) = false →
   ((allHas [⟨(-9223372036854775808), 9223372036854775807⟩, ⟨(-9223372036854775808), 9223372036854775807⟩] [v4, v1] ∧ I 0 [v0, v1, v2, v3, v4, v5] [v4, v1]) ∧ ∀ v6 v7 : Int, allHas [⟨(-9223372036854775808), 9223372036854775807⟩, ⟨(-9223372036854775808), 9223372036854775807⟩] [v6, v7] → I 0 [v0, v1, v2, v3, v4, v5] [v6, v7] →
    (((!decide ((v7 : Int) = 0)) = true →
     (((!decide ((v7 : Int) = 0)) = true) ∧ (((!decide ((v7 : Int) = 0)) = true) →
     ∀ v8 : Int, v8 = (Int.tmod v6 v7) →
     (allHas [⟨(-9223372036854775808), 9223372036854775807⟩, ⟨(-9223372036854775808), 9223372036854775807⟩] [v7, v8] ∧ I 0 [v0, v1, v2, v3, v4, v5] [v7, v8] ∧ M 0 [v0, v1, v2, v3, v4, v5] [v7, v8] < M 0 [v0, v1, v2, v3, v4, v5] [v6, v7])))) ∧ ((!decide ((v7 : Int) = 0)) = false →
     ((allHas [⟨(-9223372036854775808), 9223372036854775807⟩, ⟨(-9223372036854775808), 9223372036854775807⟩] [v6, v2] ∧ I 0 [v0, v1, v2, v3, v4, v5, v6, v7] [v6, v2]) ∧ ∀ v8 v9 : Int, allHas [⟨(-9223372036854775808), 9223372036854775807⟩, ⟨(-9223372036854775808), 9223372036854775807⟩] [v8, v9] → I 0 [v0, v1, v2, v3, v4, v5, v6, v7] [v8, v9] →
      (((!decide ((v9 : Int) = 0)) = true →
       (((!decide ((v9 : Int) = 0)) = true) ∧ (((!decide ((v9 : Int) = 0)) = true) →
       ∀ v10 : Int, v10 = (Int.tmod v8 v9) →
       (allHas [⟨(-9223372036854775808), 9223372036854775807⟩, ⟨(-9223372036854775808), 9223372036854775807⟩] [v9, v10] ∧ I 0 [v0, v1, v2, v3, v4, v5, v6, v7] [v9, v10] ∧ M 0 [v0, v1, v2, v3, v4, v5, v6, v7] [v9, v10] < M 0 [v0, v1, v2, v3, v4, v5, v6, v7] [v8, v9])))) ∧ ((!decide ((v9 : Int) = 0)) = false →
       ((allHas [⟨(-9223372036854775808), 9223372036854775807⟩, ⟨(-9223372036854775808), 9223372036854775807⟩] [v8, v3] ∧ I 0 [v0, v1, v2, v3, v4, v5, v6, v7, v8, v9] [v8, v3]) ∧ ∀ v10 v11 : Int, allHas [⟨(-9223372036854775808), 9223372036854775807⟩, ⟨(-9223372036854775808), 9223372036854775807⟩] [v10, v11] → I 0 [v0, v1, v2, v3, v4, v5, v6, v7, v8, v9] [v10, v11] →
        (((!decide ((v11 : Int) = 0)) = true →
         (((!decide ((v11 : Int) = 0)) = true) ∧ (((!decide ((v11 : Int) = 0)) = true) →
         ∀ v12 : Int, v12 = (Int.tmod v10 v11) →
         (allHas [⟨(-9223372036854775808), 9223372036854775807⟩, ⟨(-9223372036854775808), 9223372036854775807⟩] [v11, v12] ∧ I 0 [v0, v1, v2, v3, v4, v5, v6, v7, v8, v9] [v11, v12] ∧ M 0 [v0, v1, v2, v3, v4, v5, v6, v7, v8, v9] [v11, v12] < M 0 [v0, v1, v2, v3, v4, v5, v6, v7, v8, v9] [v10, v11])))) ∧ ((!decide ((v11 : Int) = 0)) = false →
         ∀ v12 : Int, v12 = (if decide ((v10 : Int) < (IntKind.wrap .i64 (0 - v10))) = true then (IntKind.wrap .i64 (0 - v10)) else v10) →
         post [v12]))))))))))))
theorem q62x (T : Tab) (I : Nat → List Int → List Int → Prop) (M : Nat → List Int → List Int → Nat) (pre : Nat → List Int → Prop) (post : List Int → Prop) (v0 v1 v2 v3 : Int) : t62x.plain T (presL pre I M) post ⟨[v0, v1, v2, v3], []⟩ = p62x T I M pre post v0 v1 v2 v3 := by kernel_rfl
theorem k62x (T : Tab) (I : Nat → List Int → List Int → Prop) (M : Nat → List Int → List Int → Nat) (pre : Nat → List Int → Prop) (hs : SubSig T c62x.sigs) (ht : Tot pre c62x.sigs) (hg : T.sig 62 = some s62x) (hC : CtAll Try.prog T.fns (pres pre) c62x.sigs) (hi : ∀ xs, pre 62 xs → allHas iv62x xs)
    (h : ∀ (v0 v1 v2 v3 : Int), ((-9223372036854775808) ≤ v0 ∧ v0 ≤ 9223372036854775807) → ((-9223372036854775808) ≤ v1 ∧ v1 ≤ 9223372036854775807) → ((-9223372036854775808) ≤ v2 ∧ v2 ≤ 9223372036854775807) → ((-9223372036854775808) ≤ v3 ∧ v3 ≤ 9223372036854775807) → pre 62 [v0, v1, v2, v3] → p62x T I M pre (fun ys => ys = T.fn 62 [v0, v1, v2, v3]) v0 v1 v2 v3) : CT Try.prog T.fns (pres pre) 62 s62x :=
  T.ctq (F := ⟨c62x, [(5, ⟨0, [3, 5], [], [12, 13, 14, 15, 16, 17, 10], [⟨(-9223372036854775808), 9223372036854775807⟩, ⟨(-9223372036854775808), 9223372036854775807⟩]⟩)]⟩) (fuel := 250) vc62x Try.checked.mixed hs ht hg hC Try.func62 I M (fun xs _ h => hi xs h) fun xs hx hp => by
    match xs, hx, hp with
    | [v0, v1, v2, v3], hx, hp => rw [q62x]; exact h v0 v1 v2 v3 hx.1 hx.2.1 hx.2.2.1 hx.2.2.2.1 hp

/-- (loop.example/g01242/impl.Moebius).reduced -/
noncomputable def c74 : Cfg := ⟨Try.prog, [(62, s62x)]⟩
def iv74 : List Iv := [⟨(-9223372036854775808), 9223372036854775807⟩, ⟨(-9223372036854775808), 9223372036854775807⟩, ⟨(-9223372036854775808), 9223372036854775807⟩, ⟨(-9223372036854775808), 9223372036854775807⟩]
def t74 : VC :=
 (.need [(.pre 62 (.e (.var 0) (.e (.var 1) (.e (.var 2) (.e (.var 3) .nil)))))]
 (.call 62 (.e (.var 0) (.e (.var 1) (.e (.var 2) (.e (.var 3) .nil)))) 1
 (.ite (.eq (.var 4) (.lit 0))
  (.fin (.e (.var 0) (.e (.var 1) (.e (.var 2) (.e (.var 3) .nil)))))
  (.need [(.b (.not (.eq (.var 4) (.lit 0)))), (.b (.not (.eq (.var 4) (.lit 0)))), (.b (.not (.eq (.var 4) (.lit 0)))), (.b (.not (.eq (.var 4) (.lit 0))))]
  (.bind (.wrap .i64 (.tdiv (.var 0) (.var 4)))
  (.bind (.wrap .i64 (.tdiv (.var 1) (.var 4)))
  (.bind (.wrap .i64 (.tdiv (.var 2) (.var 4)))
  (.bind (.wrap .i64 (.tdiv (.var 3) (.var 4)))
  (.fin (.e (.var 5) (.e (.var 6) (.e (.var 7) (.e (.var 8) .nil)))))))))))))
theorem vc74 : vcOfI ⟨c74, []⟩ iv74 250 Try.f74 s74 = t74 := by kernel_rfl
set_option linter.unusedVariables false in
def p74 (T : Tab) (I : Nat → List Int → List Int → Prop) (M : Nat → List Int → List Int → Nat) (pre : Nat → List Int → Prop) (post : List Int → Prop) (v0 v1 v2 v3 : Int) : Prop :=
 ((pre 62 [v0, v1, v2, v3]) ∧ ((pre 62 [v0, v1, v2, v3]) →
 ∀ v4 : Int, [v4] = T.out 62 1 [v0, v1, v2, v3] →
 ((decide ((v4 : Int) = 0) = true →
  post [v0, v1, v2, v3]) ∧ (decide ((v4 : Int) = 0) = false →
  (((!decide ((v4 : Int) = 0)) = true ∧ (!decide ((v4 : Int) = 0)) = true ∧ (!decide ((v4 : Int) = 0)) = true ∧ (!decide ((v4 : Int) = 0)) = true) ∧ (((!decide ((v4 : Int) = 0)) = true ∧ (!decide ((v4 : Int) = 0)) = true ∧ (!decide ((v4 : Int) = 0)) = true ∧ (!decide ((v4 : Int) = 0)) = true) →
  ∀ v5 : Int, v5 = (IntKind.wrap .i64 (Int.tdiv v0 v4)) →
  ∀ v6 : Int, v6 = (IntKind.wrap .i64 (Int.tdiv v1 v4)) →
  ∀ v7 : Int, v7 = (IntKind.wrap .i64 (Int.tdiv v2 v4)) →
  ∀ v8 : Int, v8 = (IntKind.wrap .i64 (Int.tdiv v3 v4)) →
  post [v5, v6, v7, v8]))))))
theorem q74 (T : Tab) (I : Nat → List Int → List Int → Prop) (M : Nat → List Int → List Int → Nat) (pre : Nat → List Int → Prop) (post : List Int → Prop) (v0 v1 v2 v3 : Int) : t74.plain T (presL pre I M) post ⟨[v0, v1, v2, v3], []⟩ = p74 T I M pre post v0 v1 v2 v3 := by kernel_rfl
theorem k74 (T : Tab) (I : Nat → List Int → List Int → Prop) (M : Nat → List Int → List Int → Nat) (pre : Nat → List Int → Prop) (hs : SubSig T c74.sigs) (ht : Tot pre c74.sigs) (hg : T.sig 74 = some s74) (hC : CtAll Try.prog T.fns (pres pre) c74.sigs) (hi : ∀ xs, pre 74 xs → allHas iv74 xs)
    (h : ∀ (v0 v1 v2 v3 : Int), ((-9223372036854775808) ≤ v0 ∧ v0 ≤ 9223372036854775807) → ((-9223372036854775808) ≤ v1 ∧ v1 ≤ 9223372036854775807) → ((-9223372036854775808) ≤ v2 ∧ v2 ≤ 9223372036854775807) → ((-9223372036854775808) ≤ v3 ∧ v3 ≤ 9223372036854775807) → pre 74 [v0, v1, v2, v3] → p74 T I M pre (fun ys => ys = T.fn 74 [v0, v1, v2, v3]) v0 v1 v2 v3) : CT Try.prog T.fns (pres pre) 74 s74 :=
  T.ctq (F := ⟨c74, []⟩) (fuel := 250) vc74 Try.checked.mixed hs ht hg hC Try.func74 I M (fun xs _ h => hi xs h) fun xs hx hp => by
    match xs, hx, hp with
    | [v0, v1, v2, v3], hx, hp => rw [q74]; exact h v0 v1 v2 v3 hx.1 hx.2.1 hx.2.2.1 hx.2.2.2.1 hp

end Go.Proofs.Ytaknnjlkpepgaaa.Sx
