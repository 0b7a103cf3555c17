import Derived.Test.YtfpodondpanmaaaSxY
import Derived.Test.YtfpodondpanmaaaA1
import Derived.Test.YtfpodondpanmaaaD1
import Derived.Test.YtfpodondpanmaaaChecked
import Derived.KernelRfl
namespace Go.Proofs.Ytfpodondpanmaaa.Sx
open Go Go.RowKit
/-- loop.example/g01242/spec.ConvergentsOf -/
def s35 : LSig := ⟨[.lst [.i64]], [.l false [[.i64, .i64]] [61], .n false [.i .i64]], true⟩
noncomputable def c35 : Cfg := ⟨Try.prog, [(58, s58), (59, s59)], [], [], []⟩
def iv35 : List Iv := []
def t35 : VC :=
 (.call 58 (.l (.var 0) .nil) 1
 (.ite (.not (.eq (.var 0) (.lit 1)))
  (.need []
  (.fin (.e (.lit 0) (.e (.lit 1) (.l (.lit []) .nil)))))
  (.loop 1 [(.lit 1)] [(.lit [])] [⟨(-9223372036854775808), 9223372036854775807⟩] [(⟨(-9223372036854775808), 9223372036854775807⟩, 9223372036854775807)]
   (.ite (.le (.var 1) (.len (.var 0)))
    (.need [(.b (.le (.lit 0) (.var 1))), (.b (.le (.var 1) (.len (.var 0))))]
    (.need [(.pre 59 (.l (.take (.var 0) (.var 1)) .nil))]
    (.call 59 (.l (.take (.var 0) (.var 1)) .nil) 3
    (.ite (.not (.eq (.var 4) (.lit 0)))
     (.need []
     (.fin (.e (.lit 0) (.e (.var 4) (.l (.lit []) .nil)))))
     (.need [(.b (.le (.len (.cat (.var 1) (.cat (.one (.var 2)) (.one (.var 3))))) (.lit 1099511627776)))]
     (.bind (.wrap .i64 (.add (.var 1) (.lit 1)))
     (.need [(.b (.le (.len (.cat (.var 1) (.cat (.one (.var 2)) (.one (.var 3))))) (.lit 9223372036854775807)))]
     (.again 1 1 1 [⟨(-9223372036854775808), 9223372036854775807⟩] [(.var 5)] [(.cat (.var 1) (.cat (.one (.var 2)) (.one (.var 3))))]))))))))
    (.need [(.b (.eq (.div (.len (.var 1)) (.lit 2)) (.div (.len (.var 1)) (.lit 2)))), (.b (.le (.len (.var 1)) (.lit 1099511627776)))]
    (.fin (.e (.lit 0) (.e (.lit 0) (.l (.var 1) .nil)))))))))
theorem vc35 : vcLf ⟨c35, [(5, ⟨1, [5], [], [13, 14, 15, 16, 20, 21, 22, 23, 19, 24, 25, 6, 7, 26, 27, 28, 29, 2, 3, 30, 31, 32, 33, 4, 17, 18], [⟨(-9223372036854775808), 9223372036854775807⟩], [1], [1]⟩)]⟩ iv35 (parLvs s35.params) 250 Try.f35 s35 = t35 := by kernel_rfl
set_option linter.unusedVariables false in
def p35 (T : Tab) (I : Nat → Env → Env → Prop) (M : Nat → Env → Env → Nat) (pre : Nat → List Int → List (List Int) → Prop) (post : List Int → List (List Int) → Prop) (l0 : List Int) : Prop :=
 ∀ v0 : Int, [v0] = T.outL 58 1 [] [l0] →
 (((!decide ((v0 : Int) = 1)) = true →
  ((True) ∧ ((True) →
  post [0, 1] [([] : List Int)]))) ∧ ((!decide ((v0 : Int) = 1)) = false →
  ((allHas [⟨(-9223372036854775808), 9223372036854775807⟩] [1] ∧ I 1 ⟨[v0], [l0]⟩ ⟨[1], [([] : List Int)]⟩) ∧ ∀ v1 : Int, ∀ l1 : List Int, allHas [⟨(-9223372036854775808), 9223372036854775807⟩] [v1] → allL [(⟨(-9223372036854775808), 9223372036854775807⟩, 9223372036854775807)] [l1] → I 1 ⟨[v0], [l0]⟩ ⟨[v1], [l1]⟩ →
   ((decide ((v1 : Int) ≤ (List.length l0 : Int)) = true →
    ((decide ((0 : Int) ≤ v1) = true ∧ decide ((v1 : Int) ≤ (List.length l0 : Int)) = true) ∧ ((decide ((0 : Int) ≤ v1) = true ∧ decide ((v1 : Int) ≤ (List.length l0 : Int)) = true) →
    ((pre 59 [] [(List.take (Int.toNat v1) l0)]) ∧ ((pre 59 [] [(List.take (Int.toNat v1) l0)]) →
    ∀ v2 v3 v4 : Int, [v2, v3, v4] = T.outL 59 3 [] [(List.take (Int.toNat v1) l0)] →
    (((!decide ((v4 : Int) = 0)) = true →
     ((True) ∧ ((True) →
     post [0, v4] [([] : List Int)]))) ∧ ((!decide ((v4 : Int) = 0)) = false →
     ((decide (((List.length (l1 ++ ([v2] ++ [v3])) : Int) : Int) ≤ 1099511627776) = true) ∧ ((decide (((List.length (l1 ++ ([v2] ++ [v3])) : Int) : Int) ≤ 1099511627776) = true) →
     ∀ v5 : Int, v5 = (IntKind.wrap .i64 (v1 + 1)) →
     ((decide (((List.length (l1 ++ ([v2] ++ [v3])) : Int) : Int) ≤ 9223372036854775807) = true) ∧ ((decide (((List.length (l1 ++ ([v2] ++ [v3])) : Int) : Int) ≤ 9223372036854775807) = true) →
     (allHas [⟨(-9223372036854775808), 9223372036854775807⟩] [v5] ∧ I 1 ⟨[v0], [l0]⟩ ⟨[v5], [(l1 ++ ([v2] ++ [v3]))]⟩ ∧ M 1 ⟨[v0], [l0]⟩ ⟨[v5], [(l1 ++ ([v2] ++ [v3]))]⟩ < M 1 ⟨[v0], [l0]⟩ ⟨[v1], [l1]⟩)))))))))))) ∧ (decide ((v1 : Int) ≤ (List.length l0 : Int)) = false →
    ((decide ((((List.length l1 : Int) / 2) : Int) = ((List.length l1 : Int) / 2)) = true ∧ decide (((List.length l1 : Int) : Int) ≤ 1099511627776) = true) ∧ ((decide ((((List.length l1 : Int) / 2) : Int) = ((List.length l1 : Int) / 2)) = true ∧ decide (((List.length l1 : Int) : Int) ≤ 1099511627776) = true) →
    post [0, 0] [l1])))))))
theorem q35 (T : Tab) (I : Nat → Env → Env → Prop) (M : Nat → Env → Env → Nat) (pre : Nat → List Int → List (List Int) → Prop) (post : List Int → List (List Int) → Prop) (l0 : List Int) : t35.plain T (presG pre I M) post ⟨[], [l0]⟩ = p35 T I M pre post l0 := by kernel_rfl
theorem k35 (T : Tab) (I : Nat → Env → Env → Prop) (M : Nat → Env → Env → Nat) (pre : Nat → List Int → List (List Int) → Prop) (hs : SubSig T c35.sigs) (ht : TotG pre c35.sigs) (hC : CtAll Try.prog T.fns (presQ pre) c35.sigs) (hk : CpAll Try.prog c35.cps) (hi : ∀ xs ls, allHas (parIvs s35.params) xs → pre 35 xs ls → allHas iv35 xs)
    (h : ∀ (l0 : List Int), allHas iv35 [] → allL (parLvs s35.params) [l0] → pre 35 [] [l0] → p35 T I M pre (fun ys zs => T.fns 35 [] [l0] = (ys, zs)) l0) : CTL Try.prog T.fns (presQ pre) 35 s35 :=
  T.ctl (F := ⟨c35, [(5, ⟨1, [5], [], [13, 14, 15, 16, 20, 21, 22, 23, 19, 24, 25, 6, 7, 26, 27, 28, 29, 2, 3, 30, 31, 32, 33, 4, 17, 18], [⟨(-9223372036854775808), 9223372036854775807⟩], [1], [1]⟩)]⟩) (fuel := 250) vc35 Try.checked.mixed hs ht hC hk Try.func35 I M (fun xs ls h1 h2 h3 => ⟨hi xs ls h1 h3, h2⟩) fun xs ls hx hl hp => by
    match xs, ls, hx, hl, hp with
    | [], [l0], hx, hl, hp => rw [q35]; exact h l0 hx hl hp
/-- loop.example/g01242/laws.eqRatioS -/
def s37 : Sig := ⟨[.lst [.i64, .i64], .lst [.i64, .i64]], [(false, [.b])], false⟩
noncomputable def c37 : Cfg := ⟨Try.prog, [(42, s42)], [], [], []⟩
def iv37 : List Iv := []
def t37 : VC :=
 (.ite (.not (.eq (.div (.len (.var 0)) (.lit 2)) (.div (.len (.var 1)) (.lit 2))))
  (.fin (.e (.lit 0) .nil))
  (.loop 1 [(.lit 0)] [] [⟨(-9223372036854775808), 9223372036854775807⟩] []
   (.ite (.lt (.var 0) (.div (.len (.var 0)) (.lit 2)))
    (.need [(.b (.le (.lit 0) (.var 0))), (.b (.lt (.var 0) (.div (.len (.var 0)) (.lit 2)))), (.b (.lt (.add (.mul (.add (.lit 0) (.var 0)) (.lit 2)) (.lit 1)) (.len (.var 0)))), (.b (.le (.lit 0) (.var 0))), (.b (.lt (.var 0) (.div (.len (.var 1)) (.lit 2)))), (.b (.lt (.add (.mul (.add (.lit 0) (.var 0)) (.lit 2)) (.lit 1)) (.len (.var 1))))]
    (.call 42 (.e (.at (.var 0) (.mul (.add (.lit 0) (.var 0)) (.lit 2))) (.e (.at (.var 0) (.add (.mul (.add (.lit 0) (.var 0)) (.lit 2)) (.lit 1))) (.e (.at (.var 1) (.mul (.add (.lit 0) (.var 0)) (.lit 2))) (.e (.at (.var 1) (.add (.mul (.add (.lit 0) (.var 0)) (.lit 2)) (.lit 1))) .nil)))) 1
    (.bind (.at (.var 0) (.mul (.add (.lit 0) (.var 0)) (.lit 2)))
    (.bind (.at (.var 0) (.add (.mul (.add (.lit 0) (.var 0)) (.lit 2)) (.lit 1)))
    (.bind (.at (.var 1) (.mul (.add (.lit 0) (.var 0)) (.lit 2)))
    (.bind (.at (.var 1) (.add (.mul (.add (.lit 0) (.var 0)) (.lit 2)) (.lit 1)))
    (.ite (.not (.eq (.var 1) (.lit 1)))
     (.fin (.e (.lit 0) .nil))
     (.bind (.wrap .i64 (.add (.var 0) (.lit 1)))
     (.again 1 0 2 [⟨(-9223372036854775808), 9223372036854775807⟩] [(.var 6)] [])))))))))
    (.fin (.e (.lit 1) .nil)))))
theorem vc37 : vcOfI ⟨c37, [(4, ⟨1, [5], [], [11, 12, 13, 14, 17, 18, 19, 20, 21, 22, 23, 24, 25, 26, 4, 15, 16], [⟨(-9223372036854775808), 9223372036854775807⟩], [], []⟩)]⟩ iv37 (parLvs s37.params) 250 Try.f37 s37 = t37 := by kernel_rfl
set_option linter.unusedVariables false in
def p37 (T : Tab) (I : Nat → Env → Env → Prop) (M : Nat → Env → Env → Nat) (pre : Nat → List Int → List (List Int) → Prop) (post : List Int → List (List Int) → Prop) (l0 l1 : List Int) : Prop :=
 (((!decide ((((List.length l0 : Int) / 2) : Int) = ((List.length l1 : Int) / 2))) = true →
  post [0] []) ∧ ((!decide ((((List.length l0 : Int) / 2) : Int) = ((List.length l1 : Int) / 2))) = false →
  ((allHas [⟨(-9223372036854775808), 9223372036854775807⟩] [0] ∧ I 1 ⟨[], [l0, l1]⟩ ⟨[0], []⟩) ∧ ∀ v0 : Int, allHas [⟨(-9223372036854775808), 9223372036854775807⟩] [v0] → I 1 ⟨[], [l0, l1]⟩ ⟨[v0], []⟩ →
   ((decide ((v0 : Int) < ((List.length l0 : Int) / 2)) = true →
    ((decide ((0 : Int) ≤ v0) = true ∧ decide ((v0 : Int) < ((List.length l0 : Int) / 2)) = true ∧ decide (((((0 + v0) * 2) + 1) : Int) < (List.length l0 : Int)) = true ∧ decide ((0 : Int) ≤ v0) = true ∧ decide ((v0 : Int) < ((List.length l1 : Int) / 2)) = true ∧ decide (((((0 + v0) * 2) + 1) : Int) < (List.length l1 : Int)) = true) ∧ ((decide ((0 : Int) ≤ v0) = true ∧ decide ((v0 : Int) < ((List.length l0 : Int) / 2)) = true ∧ decide (((((0 + v0) * 2) + 1) : Int) < (List.length l0 : Int)) = true ∧ decide ((0 : Int) ≤ v0) = true ∧ decide ((v0 : Int) < ((List.length l1 : Int) / 2)) = true ∧ decide (((((0 + v0) * 2) + 1) : Int) < (List.length l1 : Int)) = true) →
    ∀ v1 : Int, [v1] = T.out 42 1 [(List.getD l0 (Int.toNat ((0 + v0) * 2)) 0), (List.getD l0 (Int.toNat (((0 + v0) * 2) + 1)) 0), (List.getD l1 (Int.toNat ((0 + v0) * 2)) 0), (List.getD l1 (Int.toNat (((0 + v0) * 2) + 1)) 0)] →
    ∀ v2 : Int, v2 = (List.getD l0 (Int.toNat ((0 + v0) * 2)) 0) →
    ∀ v3 : Int, v3 = (List.getD l0 (Int.toNat (((0 + v0) * 2) + 1)) 0) →
    ∀ v4 : Int, v4 = (List.getD l1 (Int.toNat ((0 + v0) * 2)) 0) →
    ∀ v5 : Int, v5 = (List.getD l1 (Int.toNat (((0 + v0) * 2) + 1)) 0) →
    (((!decide ((v1 : Int) = 1)) = true →
     post [0] []) ∧ ((!decide ((v1 : Int) = 1)) = false →
     ∀ v6 : Int, v6 = (IntKind.wrap .i64 (v0 + 1)) →
     (allHas [⟨(-9223372036854775808), 9223372036854775807⟩] [v6] ∧ I 1 ⟨[], [l0, l1]⟩ ⟨[v6], []⟩ ∧ M 1 ⟨[], [l0, l1]⟩ ⟨[v6], []⟩ < M 1 ⟨[], [l0, l1]⟩ ⟨[v0], []⟩)))))) ∧ (decide ((v0 : Int) < ((List.length l0 : Int) / 2)) = false →
    post [1] [])))))
theorem q37 (T : Tab) (I : Nat → Env → Env → Prop) (M : Nat → Env → Env → Nat) (pre : Nat → List Int → List (List Int) → Prop) (post : List Int → List (List Int) → Prop) (l0 l1 : List Int) : t37.plain T (presG pre I M) post ⟨[], [l0, l1]⟩ = p37 T I M pre post l0 l1 := by kernel_rfl
theorem k37 (T : Tab) (I : Nat → Env → Env → Prop) (M : Nat → Env → Env → Nat) (pre : Nat → List Int → List (List Int) → Prop) (hs : SubSig T c37.sigs) (ht : TotG pre c37.sigs) (hg : T.sig 37 = some s37) (hC : CtAll Try.prog T.fns (presQ pre) c37.sigs) (hk : CpAll Try.prog c37.cps) (hi : ∀ xs ls, allHas (parIvs s37.params) xs → pre 37 xs ls → allHas iv37 xs)
    (h : ∀ (l0 l1 : List Int), allHas iv37 [] → allL (parLvs s37.params) [l0, l1] → pre 37 [] [l0, l1] → p37 T I M pre (fun ys _ => ys = T.app 37 [] [l0, l1]) l0 l1) : CT Try.prog T.fns (presQ pre) 37 s37 :=
  T.ctg (F := ⟨c37, [(4, ⟨1, [5], [], [11, 12, 13, 14, 17, 18, 19, 20, 21, 22, 23, 24, 25, 26, 4, 15, 16], [⟨(-9223372036854775808), 9223372036854775807⟩], [], []⟩)]⟩) (fuel := 250) vc37 Try.checked.mixed hs ht hg hC hk Try.func37 I M (fun xs ls h1 h2 h3 => ⟨hi xs ls h1 h3, h2⟩) fun xs ls hx hl hp => by
    match xs, ls, hx, hl, hp with
    | [], [l0, l1], hx, hl, hp => rw [q37]; exact h l0 l1 hx hl hp
/-- loop.example/g01242/laws.markRatioS -/
def s38 : WSig := ⟨[.i64, .i64], 61, [.i .i64], [(false, [.i .i64])], false⟩
noncomputable def c38 : Cfg := ⟨Try.prog, [], [], [], []⟩
def iv38 : List Iv := [⟨(-9223372036854775808), 9223372036854775807⟩]
def t38 : VC :=
 (.need [(.b (.le (.len (.var 0)) (.lit 9223372036854775807)))]
 (.loop 1 [(.var 0), (.lit 0)] [(.var 0)] [⟨(-9223372036854775808), 9223372036854775807⟩, ⟨(-9223372036854775808), 9223372036854775807⟩] [(⟨(-9223372036854775808), 9223372036854775807⟩, 9223372036854775807)]
  (.need [(.b (.eq (.div (.len (.var 0)) (.lit 2)) (.div (.len (.var 1)) (.lit 2))))]
  (.ite (.lt (.var 2) (.div (.len (.var 1)) (.lit 2)))
   (.need [(.b (.eq (.div (.len (.var 0)) (.lit 2)) (.div (.len (.var 1)) (.lit 2))))]
   (.need [(.b (.le (.lit 0) (.var 2))), (.b (.lt (.var 2) (.div (.len (.var 1)) (.lit 2))))]
   (.need [(.b (.lt (.mul (.add (.lit 0) (.var 2)) (.lit 2)) (.len (.var 1))))]
   (.bind (.wrap .i64 (.add (.var 1) (.lit 1)))
   (.need [(.b (.eq (.div (.len (.var 0)) (.lit 2)) (.div (.len (.var 1)) (.lit 2))))]
   (.need [(.b (.le (.lit 0) (.var 2))), (.b (.lt (.var 2) (.div (.len (.var 1)) (.lit 2)))), (.b (.lt (.add (.lit 0) (.var 2)) (.div (.len (.set (.var 1) (.mul (.add (.lit 0) (.var 2)) (.lit 2)) (.var 1))) (.lit 2))))]
   (.need [(.b (.lt (.add (.mul (.add (.lit 0) (.var 2)) (.lit 2)) (.lit 1)) (.len (.set (.var 1) (.mul (.add (.lit 0) (.var 2)) (.lit 2)) (.var 1)))))]
   (.bind (.wrap .i64 (.add (.var 3) (.lit 1)))
   (.bind (.wrap .i64 (.add (.var 2) (.lit 1)))
   (.again 1 1 1 [⟨(-9223372036854775808), 9223372036854775807⟩, ⟨(-9223372036854775808), 9223372036854775807⟩] [(.var 4), (.var 5)] [(.set (.set (.var 1) (.mul (.add (.lit 0) (.var 2)) (.lit 2)) (.var 1)) (.add (.mul (.add (.lit 0) (.var 2)) (.lit 2)) (.lit 1)) (.var 3))]))))))))))
   (.need [(.b (.eq (.len (.var 1)) (.len (.var 0))))]
   (.fin (.e (.var 1) (.l (.var 1) .nil))))))))
def u38 : VC :=
 (.fin (.e (.var 0) (.l (.lit []) .nil)))
theorem vc38 : vcWf ⟨c38, [(2, ⟨1, [1, 5], [], [6, 7, 8, 9, 12, 13, 14, 15, 16, 17, 18, 19, 20, 21, 22, 23, 24, 25, 10, 11], [⟨(-9223372036854775808), 9223372036854775807⟩, ⟨(-9223372036854775808), 9223372036854775807⟩], [0], []⟩)]⟩ iv38 250 Try.f38 s38 true = t38 := by kernel_rfl
theorem vd38 : vcWf ⟨c38, [(2, ⟨1, [1, 5], [], [6, 7, 8, 9, 12, 13, 14, 15, 16, 17, 18, 19, 20, 21, 22, 23, 24, 25, 10, 11], [⟨(-9223372036854775808), 9223372036854775807⟩, ⟨(-9223372036854775808), 9223372036854775807⟩], [0], []⟩)]⟩ iv38 250 Try.f38 s38 false = u38 := by kernel_rfl
set_option linter.unusedVariables false in
def p38 (T : Tab) (I : Nat → Env → Env → Prop) (M : Nat → Env → Env → Nat) (pre : Nat → List Int → List (List Int) → Prop) (post : List Int → List (List Int) → Prop) (v0 : Int) (l0 : List Int) : Prop :=
 ((decide (((List.length l0 : Int) : Int) ≤ 9223372036854775807) = true) ∧ ((decide (((List.length l0 : Int) : Int) ≤ 9223372036854775807) = true) →
 ((allHas [⟨(-9223372036854775808), 9223372036854775807⟩, ⟨(-9223372036854775808), 9223372036854775807⟩] [v0, 0] ∧ I 1 ⟨[v0], [l0]⟩ ⟨[v0, 0], [l0]⟩) ∧ ∀ v1 v2 : Int, ∀ l1 : List Int, allHas [⟨(-9223372036854775808), 9223372036854775807⟩, ⟨(-9223372036854775808), 9223372036854775807⟩] [v1, v2] → allL [(⟨(-9223372036854775808), 9223372036854775807⟩, 9223372036854775807)] [l1] → I 1 ⟨[v0], [l0]⟩ ⟨[v1, v2], [l1]⟩ →
  ((decide ((((List.length l0 : Int) / 2) : Int) = ((List.length l1 : Int) / 2)) = true) ∧ ((decide ((((List.length l0 : Int) / 2) : Int) = ((List.length l1 : Int) / 2)) = true) →
  ((decide ((v2 : Int) < ((List.length l1 : Int) / 2)) = true →
   ((decide ((((List.length l0 : Int) / 2) : Int) = ((List.length l1 : Int) / 2)) = true) ∧ ((decide ((((List.length l0 : Int) / 2) : Int) = ((List.length l1 : Int) / 2)) = true) →
   ((decide ((0 : Int) ≤ v2) = true ∧ decide ((v2 : Int) < ((List.length l1 : Int) / 2)) = true) ∧ ((decide ((0 : Int) ≤ v2) = true ∧ decide ((v2 : Int) < ((List.length l1 : Int) / 2)) = true) →
   ((decide ((((0 + v2) * 2) : Int) < (List.length l1 : Int)) = true) ∧ ((decide ((((0 + v2) * 2) : Int) < (List.length l1 : Int)) = true) →
   ∀ v3 : Int, v3 = (IntKind.wrap .i64 (v1 + 1)) →
   ((decide ((((List.length l0 : Int) / 2) : Int) = ((List.length l1 : Int) / 2)) = true) ∧ ((decide ((((List.length l0 : Int) / 2) : Int) = ((List.length l1 : Int) / 2)) = true) →
   ((decide ((0 : Int) ≤ v2) = true ∧ decide ((v2 : Int) < ((List.length l1 : Int) / 2)) = true ∧ decide (((0 + v2) : Int) < ((List.length (List.set l1 (Int.toNat ((0 + v2) * 2)) v1) : Int) / 2)) = true) ∧ ((decide ((0 : Int) ≤ v2) = true ∧ decide ((v2 : Int) < ((List.length l1 : Int) / 2)) = true ∧ decide (((0 + v2) : Int) < ((List.length (List.set l1 (Int.toNat ((0 + v2) * 2)) v1) : Int) / 2)) = true) →
   ((decide (((((0 + v2) * 2) + 1) : Int) < (List.length (List.set l1 (Int.toNat ((0 + v2) * 2)) v1) : Int)) = true) ∧ ((decide (((((0 + v2) * 2) + 1) : Int) < (List.length (List.set l1 (Int.toNat ((0 + v2) * 2)) v1) : Int)) = true) →
   ∀ v4 : Int, v4 = (IntKind.wrap .i64 (v3 + 1)) →
   ∀ v5 : Int, v5 = (IntKind.wrap .i64 (v2 + 1)) →
   (allHas [⟨(-9223372036854775808), 9223372036854775807⟩, ⟨(-9223372036854775808), 9223372036854775807⟩] [v4, v5] ∧ I 1 ⟨[v0], [l0]⟩ ⟨[v4, v5], [(List.set (List.set l1 (Int.toNat ((0 + v2) * 2)) v1) (Int.toNat (((0 + v2) * 2) + 1)) v3)]⟩ ∧ M 1 ⟨[v0], [l0]⟩ ⟨[v4, v5], [(List.set (List.set l1 (Int.toNat ((0 + v2) * 2)) v1) (Int.toNat (((0 + v2) * 2) + 1)) v3)]⟩ < M 1 ⟨[v0], [l0]⟩ ⟨[v1, v2], [l1]⟩)))))))))))))) ∧ (decide ((v2 : Int) < ((List.length l1 : Int) / 2)) = false →
   ((decide (((List.length l1 : Int) : Int) = (List.length l0 : Int)) = true) ∧ ((decide (((List.length l1 : Int) : Int) = (List.length l0 : Int)) = true) →
   post [v1] [l1])))))))))
set_option linter.unusedVariables false in
def r38 (T : Tab) (I : Nat → Env → Env → Prop) (M : Nat → Env → Env → Nat) (pre : Nat → List Int → List (List Int) → Prop) (post : List Int → List (List Int) → Prop) (v0 : Int) : Prop :=
 post [v0] [([] : List Int)]
theorem q38 (T : Tab) (I : Nat → Env → Env → Prop) (M : Nat → Env → Env → Nat) (pre : Nat → List Int → List (List Int) → Prop) (post : List Int → List (List Int) → Prop) (v0 : Int) (l0 : List Int) : t38.plain T (presG pre I M) post ⟨[v0], [l0]⟩ = p38 T I M pre post v0 l0 := by kernel_rfl
theorem qn38 (T : Tab) (I : Nat → Env → Env → Prop) (M : Nat → Env → Env → Nat) (pre : Nat → List Int → List (List Int) → Prop) (post : List Int → List (List Int) → Prop) (v0 : Int) : u38.plain T (presG pre I M) post ⟨[v0], []⟩ = r38 T I M pre post v0 := by kernel_rfl
theorem k38 (T : Tab) (I : Nat → Env → Env → Prop) (M : Nat → Env → Env → Nat) (pre : Nat → List Int → List (List Int) → Prop) (hs : SubSig T c38.sigs) (ht : TotG pre c38.sigs) (hC : CtAll Try.prog T.fns (presQ pre) c38.sigs) (hk : CpAll Try.prog c38.cps) (hi : ∀ xs ls, allHas (parIvs s38.params) xs → pre 38 xs ls → allHas iv38 xs)
    (ho : ∀ (v0 : Int) (l0 : List Int), allHas iv38 [v0] → allL [s38.lv] [l0] → pre 38 [v0] [l0] → p38 T I M pre (fun ys zs => T.fns 38 [v0] [l0] = (ys, zs)) v0 l0)
    (hn : ∀ (v0 : Int), allHas iv38 [v0] → pre 38 [v0] [[]] → r38 T I M pre (fun ys zs => T.fns 38 [v0] [[]] = (ys, zs)) v0) : CTW Try.prog T.fns (presQ pre) 38 s38 :=
  T.ctw (F := ⟨c38, [(2, ⟨1, [1, 5], [], [6, 7, 8, 9, 12, 13, 14, 15, 16, 17, 18, 19, 20, 21, 22, 23, 24, 25, 10, 11], [⟨(-9223372036854775808), 9223372036854775807⟩, ⟨(-9223372036854775808), 9223372036854775807⟩], [0], []⟩)]⟩) (fuel := 250) vc38 vd38 Try.checked.mixed hs ht hC hk Try.func38 I M hi (fun xs l hx hl hp => by
    match xs, hx, hp with
    | [v0], hx, hp => rw [q38]; exact ho v0 l hx hl hp) fun xs hx hp => by
    match xs, hx, hp with
    | [v0], hx, hp => rw [qn38]; exact hn v0 hx hp
/-- loop.example/g01242/laws.heldRatioS -/
def s39 : Sig := ⟨[.lst [.i64, .i64], .val false [.i .i64]], [(false, [.i .i64])], false⟩
noncomputable def c39 : Cfg := ⟨Try.prog, [], [], [], []⟩
def iv39 : List Iv := [⟨(-9223372036854775808), 9223372036854775807⟩]
def t39 : VC :=
 (.loop 1 [(.var 0), (.lit 0)] [] [⟨(-9223372036854775808), 9223372036854775807⟩, ⟨(-9223372036854775808), 9223372036854775807⟩] []
  (.ite (.lt (.var 2) (.div (.len (.var 0)) (.lit 2)))
   (.need [(.b (.le (.lit 0) (.var 2))), (.b (.lt (.var 2) (.div (.len (.var 0)) (.lit 2))))]
   (.need [(.b (.lt (.mul (.add (.lit 0) (.var 2)) (.lit 2)) (.len (.var 0))))]
   (.bind (.at (.var 0) (.mul (.add (.lit 0) (.var 2)) (.lit 2)))
   (.ite (.not (.eq (.var 3) (.var 1)))
    (.fin (.e (.lit (-1)) .nil))
    (.bind (.wrap .i64 (.add (.var 1) (.lit 1)))
    (.need [(.b (.le (.lit 0) (.var 2))), (.b (.lt (.var 2) (.div (.len (.var 0)) (.lit 2))))]
    (.need [(.b (.lt (.add (.mul (.add (.lit 0) (.var 2)) (.lit 2)) (.lit 1)) (.len (.var 0))))]
    (.bind (.at (.var 0) (.add (.mul (.add (.lit 0) (.var 2)) (.lit 2)) (.lit 1)))
    (.ite (.not (.eq (.var 5) (.var 4)))
     (.fin (.e (.lit (-1)) .nil))
     (.bind (.wrap .i64 (.add (.var 4) (.lit 1)))
     (.bind (.wrap .i64 (.add (.var 2) (.lit 1)))
     (.again 1 1 1 [⟨(-9223372036854775808), 9223372036854775807⟩, ⟨(-9223372036854775808), 9223372036854775807⟩] [(.var 6), (.var 7)] []))))))))))))
   (.fin (.e (.var 1) .nil))))
theorem vc39 : vcOfI ⟨c39, [(2, ⟨1, [1, 5], [], [6, 7, 8, 9, 12, 13, 14, 15, 16, 17, 18, 4, 19, 20, 21, 22, 23, 24, 25, 26, 27, 28, 29, 10, 11], [⟨(-9223372036854775808), 9223372036854775807⟩, ⟨(-9223372036854775808), 9223372036854775807⟩], [], []⟩)]⟩ iv39 (parLvs s39.params) 250 Try.f39 s39 = t39 := by kernel_rfl
set_option linter.unusedVariables false in
def p39 (T : Tab) (I : Nat → Env → Env → Prop) (M : Nat → Env → Env → Nat) (pre : Nat → List Int → List (List Int) → Prop) (post : List Int → List (List Int) → Prop) (v0 : Int) (l0 : List Int) : Prop :=
 ((allHas [⟨(-9223372036854775808), 9223372036854775807⟩, ⟨(-9223372036854775808), 9223372036854775807⟩] [v0, 0] ∧ I 1 ⟨[v0], [l0]⟩ ⟨[v0, 0], []⟩) ∧ ∀ v1 v2 : Int, allHas [⟨(-9223372036854775808), 9223372036854775807⟩, ⟨(-9223372036854775808), 9223372036854775807⟩] [v1, v2] → I 1 ⟨[v0], [l0]⟩ ⟨[v1, v2], []⟩ →
  ((decide ((v2 : Int) < ((List.length l0 : Int) / 2)) = true →
   ((decide ((0 : Int) ≤ v2) = true ∧ decide ((v2 : Int) < ((List.length l0 : Int) / 2)) = true) ∧ ((decide ((0 : Int) ≤ v2) = true ∧ decide ((v2 : Int) < ((List.length l0 : Int) / 2)) = true) →
   ((decide ((((0 + v2) * 2) : Int) < (List.length l0 : Int)) = true) ∧ ((decide ((((0 + v2) * 2) : Int) < (List.length l0 : Int)) = true) →
   ∀ v3 : Int, v3 = (List.getD l0 (Int.toNat ((0 + v2) * 2)) 0) →
   (((!decide ((v3 : Int) = v1)) = true →
    post [(-1)] []) ∧ ((!decide ((v3 : Int) = v1)) = false →
    ∀ v4 : Int, v4 = (IntKind.wrap .i64 (v1 + 1)) →
    ((decide ((0 : Int) ≤ v2) = true ∧ decide ((v2 : Int) < ((List.length l0 : Int) / 2)) = true) ∧ ((decide ((0 : Int) ≤ v2) = true ∧ decide ((v2 : Int) < ((List.length l0 : Int) / 2)) = true) →
    ((decide (((((0 + v2) * 2) + 1) : Int) < (List.length l0 : Int)) = true) ∧ ((decide (((((0 + v2) * 2) + 1) : Int) < (List.length l0 : Int)) = true) →
    ∀ v5 : Int, v5 = (List.getD l0 (Int.toNat (((0 + v2) * 2) + 1)) 0) →
    (((!decide ((v5 : Int) = v4)) = true →
     post [(-1)] []) ∧ ((!decide ((v5 : Int) = v4)) = false →
     ∀ v6 : Int, v6 = (IntKind.wrap .i64 (v4 + 1)) →
     ∀ v7 : Int, v7 = (IntKind.wrap .i64 (v2 + 1)) →
     (allHas [⟨(-9223372036854775808), 9223372036854775807⟩, ⟨(-9223372036854775808), 9223372036854775807⟩] [v6, v7] ∧ I 1 ⟨[v0], [l0]⟩ ⟨[v6, v7], []⟩ ∧ M 1 ⟨[v0], [l0]⟩ ⟨[v6, v7], []⟩ < M 1 ⟨[v0], [l0]⟩ ⟨[v1, v2], []⟩)))))))))))))) ∧ (decide ((v2 : Int) < ((List.length l0 : Int) / 2)) = false →
   post [v1] [])))
theorem q39 (T : Tab) (I : Nat → Env → Env → Prop) (M : Nat → Env → Env → Nat) (pre : Nat → List Int → List (List Int) → Prop) (post : List Int → List (List Int) → Prop) (v0 : Int) (l0 : List Int) : t39.plain T (presG pre I M) post ⟨[v0], [l0]⟩ = p39 T I M pre post v0 l0 := by kernel_rfl
theorem k39 (T : Tab) (I : Nat → Env → Env → Prop) (M : Nat → Env → Env → Nat) (pre : Nat → List Int → List (List Int) → Prop) (hs : SubSig T c39.sigs) (ht : TotG pre c39.sigs) (hg : T.sig 39 = some s39) (hC : CtAll Try.prog T.fns (presQ pre) c39.sigs) (hk : CpAll Try.prog c39.cps) (hi : ∀ xs ls, allHas (parIvs s39.params) xs → pre 39 xs ls → allHas iv39 xs)
    (h : ∀ (v0 : Int) (l0 : List Int), allHas iv39 [v0] → allL (parLvs s39.params) [l0] → pre 39 [v0] [l0] → p39 T I M pre (fun ys _ => ys = T.app 39 [v0] [l0]) v0 l0) : CT Try.prog T.fns (presQ pre) 39 s39 :=
  T.ctg (F := ⟨c39, [(2, ⟨1, [1, 5], [], [6, 7, 8, 9, 12, 13, 14, 15, 16, 17, 18, 4, 19, 20, 21, 22, 23, 24, 25, 26, 27, 28, 29, 10, 11], [⟨(-9223372036854775808), 9223372036854775807⟩, ⟨(-9223372036854775808), 9223372036854775807⟩], [], []⟩)]⟩) (fuel := 250) vc39 Try.checked.mixed hs ht hg hC hk Try.func39 I M (fun xs ls h1 h2 h3 => ⟨hi xs ls h1 h3, h2⟩) fun xs ls hx hl hp => by
    match xs, ls, hx, hl, hp with
    | [v0], [l0], hx, hl, hp => rw [q39]; exact h v0 l0 hx hl hp
/-- loop.example/g01242/laws.markInt64S -/
def s27 : WSig := ⟨[.i64], 2, [.i .i64], [(false, [.i .i64])], false⟩
noncomputable def c27 : Cfg := ⟨Try.prog, [], [], [], []⟩
def iv27 : List Iv := [⟨(-9223372036854775808), 9223372036854775807⟩]
def t27 : VC :=
 (.loop 1 [(.var 0), (.lit 0)] [(.var 0)] [⟨(-9223372036854775808), 9223372036854775807⟩, ⟨(-9223372036854775808), 9223372036854775807⟩] [(⟨(-9223372036854775808), 9223372036854775807⟩, 9223372036854775807)]
  (.need [(.b (.eq (.len (.var 0)) (.len (.var 1))))]
  (.ite (.lt (.var 2) (.len (.var 1)))
   (.need [(.b (.eq (.len (.var 0)) (.len (.var 1))))]
   (.need [(.b (.le (.lit 0) (.var 2))), (.b (.lt (.var 2) (.len (.var 1))))]
   (.need [(.b (.lt (.add (.lit 0) (.var 2)) (.len (.var 1))))]
   (.bind (.wrap .i64 (.add (.var 1) (.lit 1)))
   (.bind (.wrap .i64 (.add (.var 2) (.lit 1)))
   (.again 1 1 1 [⟨(-9223372036854775808), 9223372036854775807⟩, ⟨(-9223372036854775808), 9223372036854775807⟩] [(.var 3), (.var 4)] [(.set (.var 1) (.add (.lit 0) (.var 2)) (.var 1))]))))))
   (.need [(.b (.eq (.len (.var 1)) (.len (.var 0))))]
   (.fin (.e (.var 1) (.l (.var 1) .nil)))))))
def u27 : VC :=
 (.fin (.e (.var 0) (.l (.lit []) .nil)))
theorem vc27 : vcWf ⟨c27, [(2, ⟨1, [1, 5], [], [6, 7, 8, 9, 12, 13, 14, 15, 16, 17, 10, 11], [⟨(-9223372036854775808), 9223372036854775807⟩, ⟨(-9223372036854775808), 9223372036854775807⟩], [0], []⟩)]⟩ iv27 250 Try.f27 s27 true = t27 := by kernel_rfl
theorem vd27 : vcWf ⟨c27, [(2, ⟨1, [1, 5], [], [6, 7, 8, 9, 12, 13, 14, 15, 16, 17, 10, 11], [⟨(-9223372036854775808), 9223372036854775807⟩, ⟨(-9223372036854775808), 9223372036854775807⟩], [0], []⟩)]⟩ iv27 250 Try.f27 s27 false = u27 := by kernel_rfl
set_option linter.unusedVariables false in
def p27 (T : Tab) (I : Nat → Env → Env → Prop) (M : Nat → Env → Env → Nat) (pre : Nat → List Int → List (List Int) → Prop) (post : List Int → List (List Int) → Prop) (v0 : Int) (l0 : List Int) : Prop :=
 ((allHas [⟨(-9223372036854775808), 9223372036854775807⟩, ⟨(-9223372036854775808), 9223372036854775807⟩] [v0, 0] ∧ I 1 ⟨[v0], [l0]⟩ ⟨[v0, 0], [l0]⟩) ∧ ∀ v1 v2 : Int, ∀ l1 : List Int, allHas [⟨(-9223372036854775808), 9223372036854775807⟩, ⟨(-9223372036854775808), 9223372036854775807⟩] [v1, v2] → allL [(⟨(-9223372036854775808), 9223372036854775807⟩, 9223372036854775807)] [l1] → I 1 ⟨[v0], [l0]⟩ ⟨[v1, v2], [l1]⟩ →
  ((decide (((List.length l0 : Int) : Int) = (List.length l1 : Int)) = true) ∧ ((decide (((List.length l0 : Int) : Int) = (List.length l1 : Int)) = true) →
  ((decide ((v2 : Int) < (List.length l1 : Int)) = true →
   ((decide (((List.length l0 : Int) : Int) = (List.length l1 : Int)) = true) ∧ ((decide (((List.length l0 : Int) : Int) = (List.length l1 : Int)) = true) →
   ((decide ((0 : Int) ≤ v2) = true ∧ decide ((v2 : Int) < (List.length l1 : Int)) = true) ∧ ((decide ((0 : Int) ≤ v2) = true ∧ decide ((v2 : Int) < (List.length l1 : Int)) = true) →
   ((decide (((0 + v2) : Int) < (List.length l1 : Int)) = true) ∧ ((decide (((0 + v2) : Int) < (List.length l1 : Int)) = true) →
   ∀ v3 : Int, v3 = (IntKind.wrap .i64 (v1 + 1)) →
   ∀ v4 : Int, v4 = (IntKind.wrap .i64 (v2 + 1)) →
   (allHas [⟨(-9223372036854775808), 9223372036854775807⟩, ⟨(-9223372036854775808), 9223372036854775807⟩] [v3, v4] ∧ I 1 ⟨[v0], [l0]⟩ ⟨[v3, v4], [(List.set l1 (Int.toNat (0 + v2)) v1)]⟩ ∧ M 1 ⟨[v0], [l0]⟩ ⟨[v3, v4], [(List.set l1 (Int.toNat (0 + v2)) v1)]⟩ < M 1 ⟨[v0], [l0]⟩ ⟨[v1, v2], [l1]⟩)))))))) ∧ (decide ((v2 : Int) < (List.length l1 : Int)) = false →
   ((decide (((List.length l1 : Int) : Int) = (List.length l0 : Int)) = true) ∧ ((decide (((List.length l1 : Int) : Int) = (List.length l0 : Int)) = true) →
   post [v1] [l1])))))))
set_option linter.unusedVariables false in
def r27 (T : Tab) (I : Nat → Env → Env → Prop) (M : Nat → Env → Env → Nat) (pre : Nat → List Int → List (List Int) → Prop) (post : List Int → List (List Int) → Prop) (v0 : Int) : Prop :=
 post [v0] [([] : List Int)]
theorem q27 (T : Tab) (I : Nat → Env → Env → Prop) (M : Nat → Env → Env → Nat) (pre : Nat → List Int → List (List Int) → Prop) (post : List Int → List (List Int) → Prop) (v0 : Int) (l0 : List Int) : t27.plain T (presG pre I M) post ⟨[v0], [l0]⟩ = p27 T I M pre post v0 l0 := by kernel_rfl
theorem qn27 (T : Tab) (I : Nat → Env → Env → Prop) (M : Nat → Env → Env → Nat) (pre : Nat → List Int → List (List Int) → Prop) (post : List Int → List (List Int) → Prop) (v0 : Int) : u27.plain T (presG pre I M) post ⟨[v0], []⟩ = r27 T I M pre post v0 := by kernel_rfl
theorem k27 (T : Tab) (I : Nat → Env → Env → Prop) (M : Nat → Env → Env → Nat) (pre : Nat → List Int → List (List Int) → Prop) (hs : SubSig T c27.sigs) (ht : TotG pre c27.sigs) (hC : CtAll Try.prog T.fns (presQ pre) c27.sigs) (hk : CpAll Try.prog c27.cps) (hi : ∀ xs ls, allHas (parIvs s27.params) xs → pre 27 xs ls → allHas iv27 xs)
    (ho : ∀ (v0 : Int) (l0 : List Int), allHas iv27 [v0] → allL [s27.lv] [l0] → pre 27 [v0] [l0] → p27 T I M pre (fun ys zs => T.fns 27 [v0] [l0] = (ys, zs)) v0 l0)
    (hn : ∀ (v0 : Int), allHas iv27 [v0] → pre 27 [v0] [[]] → r27 T I M pre (fun ys zs => T.fns 27 [v0] [[]] = (ys, zs)) v0) : CTW Try.prog T.fns (presQ pre) 27 s27 :=
  T.ctw (F := ⟨c27, [(2, ⟨1, [1, 5], [], [6, 7, 8, 9, 12, 13, 14, 15, 16, 17, 10, 11], [⟨(-9223372036854775808), 9223372036854775807⟩, ⟨(-9223372036854775808), 9223372036854775807⟩], [0], []⟩)]⟩) (fuel := 250) vc27 vd27 Try.checked.mixed hs ht hC hk Try.func27 I M hi (fun xs l hx hl hp => by
    match xs, hx, hp with
    | [v0], hx, hp => rw [q27]; exact ho v0 l hx hl hp) fun xs hx hp => by
    match xs, hx, hp with
    | [v0], hx, hp => rw [qn27]; exact hn v0 hx hp
/-- loop.example/g01242/laws.FnExactConvergentsOf -/
def s11 : Sig := ⟨[.lst [.i64]], [(false, [.b])], true⟩
noncomputable def c11 : Cfg := ⟨Try.prog, [(37, s37), (16, s16), (39, s39)], [(14, s14, y14)], [(35, s35), (36, s36)], [(27, s27), (38, s38)]⟩
def iv11 : List Iv := []
def t11 : VC :=
 (.ite (.lt (.lit 1048576) (.len (.var 0)))
  (.fin (.e (.lit 1) .nil))
  (.need [(.b (.le (.len (.var 0)) (.lit 1099511627776)))]
  (.calll 35 (.l (.var 0) .nil) [⟨0, 1⟩, ⟨(-9223372036854775808), 9223372036854775807⟩] [(⟨(-9223372036854775808), 9223372036854775807⟩, 1099511627776)]
  (.ite (.eq (.var 0) (.lit 1))
   (.need [(.b (.le (.len (.var 0)) (.lit 1099511627776)))]
   (.calll 36 (.l (.var 0) .nil) [⟨0, 1⟩, ⟨(-9223372036854775808), 9223372036854775807⟩] [(⟨(-9223372036854775808), 9223372036854775807⟩, 1099511627776)]
   (.ite (.eq (.var 2) (.lit 1))
    (.need [(.pre 37 (.l (.lit []) (.l (.lit []) .nil)))]
    (.call 37 (.l (.lit []) (.l (.lit []) .nil)) 1
    (.ite (.eq (.var 4) (.lit 1))
     (.ite (.not (.eq (.var 3) (.var 1)))
      (.fin (.e (.lit 0) .nil))
      (.need [(.b (.le (.len (.var 0)) (.lit 1099511627776)))]
      (.call 16 (.l (.var 0) (.l (.var 0) .nil)) 1
      (.ite (.not (.eq (.var 5) (.lit 1)))
       (.fin (.e (.lit 0) .nil))
       (.need [(.pre 27 (.l (.var 0) (.e (.lit 1) .nil)))]
       (.calll 27 (.l (.var 0) (.e (.lit 1) .nil)) [⟨(-9223372036854775808), 9223372036854775807⟩] [(⟨(-9223372036854775808), 9223372036854775807⟩, 9223372036854775807)]
       (.ite (.le (.lit 0) (.var 6))
        (.need [(.pre 37 (.l (.lit []) (.l (.lit []) .nil)))]
        (.call 37 (.l (.lit []) (.l (.lit []) .nil)) 1
        (.ite (.eq (.var 7) (.lit 1))
         (.need [(.pre 38 (.l (.lit []) (.e (.lit 1) .nil)))]
         (.calll 38 (.l (.lit []) (.e (.lit 1) .nil)) [⟨(-9223372036854775808), 9223372036854775807⟩] [(⟨(-9223372036854775808), 9223372036854775807⟩, 18446744073709551614)]
         (.need [(.pre 39 (.l (.lit []) (.e (.lit 1) .nil)))]
         (.call 39 (.l (.lit []) (.e (.lit 1) .nil)) 1
         (.ite (.lt (.var 9) (.lit 0))
          (.fin (.e (.lit 0) .nil))
          (.ite (.not (.eq (.var 9) (.var 8)))
           (.fin (.e (.lit 0) .nil))
           (.need [(.b (.le (.len (.var 0)) (.lit 1099511627776)))]
           (.calll 36 (.l (.var 0) .nil) [⟨0, 1⟩, ⟨(-9223372036854775808), 9223372036854775807⟩] [(⟨(-9223372036854775808), 9223372036854775807⟩, 1099511627776)]
           (.ite (.eq (.var 10) (.lit 1))
            (.need [(.pre 37 (.l (.lit []) (.l (.lit []) .nil)))]
            (.call 37 (.l (.lit []) (.l (.lit []) .nil)) 1
            (.ite (.eq (.var 12) (.lit 1))
             (.ite (.not (.eq (.var 11) (.var 1)))
              (.fin (.e (.lit 0) .nil))
              (.need [(.pre 39 (.l (.lit []) (.e (.lit 1) .nil)))]
              (.call 39 (.l (.lit []) (.e (.lit 1) .nil)) 1
              (.ite (.lt (.var 13) (.lit 0))
               (.fin (.e (.lit 0) .nil))
               (.ite (.not (.eq (.var 13) (.var 8)))
                (.fin (.e (.lit 0) .nil))
                (.fin (.e (.lit 1) .nil)))))))
             (.fin (.e (.lit 0) .nil)))))
            (.need [(.pre 37 (.l (.var 5) (.l (.lit []) .nil)))]
            (.call 37 (.l (.var 5) (.l (.lit []) .nil)) 1
            (.ite (.eq (.var 12) (.lit 1))
             (.ite (.not (.eq (.var 11) (.var 1)))
              (.fin (.e (.lit 0) .nil))
              (.need [(.pre 39 (.l (.lit []) (.e (.lit 1) .nil)))]
              (.call 39 (.l (.lit []) (.e (.lit 1) .nil)) 1
              (.ite (.lt (.var 13) (.lit 0))
               (.fin (.e (.lit 0) .nil))
               (.ite (.not (.eq (.var 13) (.var 8)))
                (.fin (.e (.lit 0) .nil))
                (.fin (.e (.lit 1) .nil)))))))
             (.fin (.e (.lit 0) .nil))))))))))))))
         (.fin (.e (.lit 0) .nil)))))
        (.fin (.e (.lit 0) .nil)))))))))
     (.fin (.e (.lit 0) .nil)))))
    (.need [(.pre 37 (.l (.var 2) (.l (.lit []) .nil)))]
    (.call 37 (.l (.var 2) (.l (.lit []) .nil)) 1
    (.ite (.eq (.var 4) (.lit 1))
     (.ite (.not (.eq (.var 3) (.var 1)))
      (.fin (.e (.lit 0) .nil))
      (.need [(.b (.le (.len (.var 0)) (.lit 1099511627776)))]
      (.call 16 (.l (.var 0) (.l (.var 0) .nil)) 1
      (.ite (.not (.eq (.var 5) (.lit 1)))
       (.fin (.e (.lit 0) .nil))
       (.need [(.pre 27 (.l (.var 0) (.e (.lit 1) .nil)))]
       (.calll 27 (.l (.var 0) (.e (.lit 1) .nil)) [⟨(-9223372036854775808), 9223372036854775807⟩] [(⟨(-9223372036854775808), 9223372036854775807⟩, 9223372036854775807)]
       (.ite (.le (.lit 0) (.var 6))
        (.need [(.pre 37 (.l (.var 2) (.l (.lit []) .nil)))]
        (.call 37 (.l (.var 2) (.l (.lit []) .nil)) 1
        (.ite (.eq (.var 7) (.lit 1))
         (.need [(.pre 38 (.l (.var 2) (.e (.lit 1) .nil)))]
         (.calll 38 (.l (.var 2) (.e (.lit 1) .nil)) [⟨(-9223372036854775808), 9223372036854775807⟩] [(⟨(-9223372036854775808), 9223372036854775807⟩, 18446744073709551614)]
         (.need [(.pre 39 (.l (.var 4) (.e (.lit 1) .nil)))]
         (.call 39 (.l (.var 4) (.e (.lit 1) .nil)) 1
         (.ite (.lt (.var 9) (.lit 0))
          (.fin (.e (.lit 0) .nil))
          (.ite (.not (.eq (.var 9) (.var 8)))
           (.fin (.e (.lit 0) .nil))
           (.need [(.b (.le (.len (.var 0)) (.lit 1099511627776)))]
           (.calll 36 (.l (.var 0) .nil) [⟨0, 1⟩, ⟨(-9223372036854775808), 9223372036854775807⟩] [(⟨(-9223372036854775808), 9223372036854775807⟩, 1099511627776)]
           (.ite (.eq (.var 10) (.lit 1))
            (.need [(.pre 37 (.l (.lit []) (.l (.lit []) .nil)))]
            (.call 37 (.l (.lit []) (.l (.lit []) .nil)) 1
            (.ite (.eq (.var 12) (.lit 1))
             (.ite (.not (.eq (.var 11) (.var 1)))
              (.fin (.e (.lit 0) .nil))
              (.need [(.pre 39 (.l (.var 4) (.e (.lit 1) .nil)))]
              (.call 39 (.l (.var 4) (.e (.lit 1) .nil)) 1
              (.ite (.lt (.var 13) (.lit 0))
               (.fin (.e (.lit 0) .nil))
               (.ite (.not (.eq (.var 13) (.var 8)))
                (.fin (.e (.lit 0) .nil))
                (.fin (.e (.lit 1) .nil)))))))
             (.fin (.e (.lit 0) .nil)))))
            (.need [(.pre 37 (.l (.var 5) (.l (.lit []) .nil)))]
            (.call 37 (.l (.var 5) (.l (.lit []) .nil)) 1
            (.ite (.eq (.var 12) (.lit 1))
             (.ite (.not (.eq (.var 11) (.var 1)))
              (.fin (.e (.lit 0) .nil))
              (.need [(.pre 39 (.l (.var 4) (.e (.lit 1) .nil)))]
              (.call 39 (.l (.var 4) (.e (.lit 1) .nil)) 1
              (.ite (.lt (.var 13) (.lit 0))
               (.fin (.e (.lit 0) .nil))
               (.ite (.not (.eq (.var 13) (.var 8)))
                (.fin (.e (.lit 0) .nil))
                (.fin (.e (.lit 1) .nil)))))))
             (.fin (.e (.lit 0) .nil))))))))))))))
         (.fin (.e (.lit 0) .nil)))))
        (.fin (.e (.lit 0) .nil)))))))))
     (.fin (.e (.lit 0) .nil))))))))
   (.need [(.b (.le (.len (.var 0)) (.lit 1099511627776)))]
   (.calll 36 (.l (.var 0) .nil) [⟨0, 1⟩, ⟨(-9223372036854775808), 9223372036854775807⟩] [(⟨(-9223372036854775808), 9223372036854775807⟩, 1099511627776)]
   (.ite (.eq (.var 2) (.lit 1))
    (.need [(.pre 37 (.l (.lit []) (.l (.var 1) .nil)))]
    (.call 37 (.l (.lit []) (.l (.var 1) .nil)) 1
    (.ite (.eq (.var 4) (.lit 1))
     (.ite (.not (.eq (.var 3) (.var 1)))
      (.fin (.e (.lit 0) .nil))
      (.need [(.b (.le (.len (.var 0)) (.lit 1099511627776)))]
      (.call 16 (.l (.var 0) (.l (.var 0) .nil)) 1
      (.ite (.not (.eq (.var 5) (.lit 1)))
       (.fin (.e (.lit 0) .nil))
       (.need [(.pre 27 (.l (.var 0) (.e (.lit 1) .nil)))]
       (.calll 27 (.l (.var 0) (.e (.lit 1) .nil)) [⟨(-9223372036854775808), 9223372036854775807⟩] [(⟨(-9223372036854775808), 9223372036854775807⟩, 9223372036854775807)]
       (.ite (.le (.lit 0) (.var 6))
        (.need [(.pre 37 (.l (.lit []) (.l (.var 1) .nil)))]
        (.call 37 (.l (.lit []) (.l (.var 1) .nil)) 1
        (.ite (.eq (.var 7) (.lit 1))
         (.need [(.pre 38 (.l (.lit []) (.e (.lit 1) .nil)))]
         (.calll 38 (.l (.lit []) (.e (.lit 1) .nil)) [⟨(-9223372036854775808), 9223372036854775807⟩] [(⟨(-9223372036854775808), 9223372036854775807⟩, 18446744073709551614)]
         (.need [(.pre 39 (.l (.lit []) (.e (.lit 1) .nil)))]
         (.call 39 (.l (.lit []) (.e (.lit 1) .nil)) 1
         (.ite (.lt (.var 9) (.lit 0))
          (.fin (.e (.lit 0) .nil))
          (.ite (.not (.eq (.var 9) (.var 8)))
           (.fin (.e (.lit 0) .nil))
           (.need [(.b (.le (.len (.var 0)) (.lit 1099511627776)))]
           (.calll 36 (.l (.var 0) .nil) [⟨0, 1⟩, ⟨(-9223372036854775808), 9223372036854775807⟩] [(⟨(-9223372036854775808), 9223372036854775807⟩, 1099511627776)]
           (.ite (.eq (.var 10) (.lit 1))
            (.need [(.pre 37 (.l (.lit []) (.l (.var 1) .nil)))]
            (.call 37 (.l (.lit []) (.l (.var 1) .nil)) 1
            (.ite (.eq (.var 12) (.lit 1))
             (.ite (.not (.eq (.var 11) (.var 1)))
              (.fin (.e (.lit 0) .nil))
              (.need [(.pre 39 (.l (.lit []) (.e (.lit 1) .nil)))]
              (.call 39 (.l (.lit []) (.e (.lit 1) .nil)) 1
              (.ite (.lt (.var 13) (.lit 0))
               (.fin (.e (.lit 0) .nil))
               (.ite (.not (.eq (.var 13) (.var 8)))
                (.fin (.e (.lit 0) .nil))
                (.fin (.e (.lit 1) .nil)))))))
             (.fin (.e (.lit 0) .nil)))))
            (.need [(.pre 37 (.l (.var 5) (.l (.var 1) .nil)))]
            (.call 37 (.l (.var 5) (.l (.var 1) .nil)) 1
            (.ite (.eq (.var 12) (.lit 1))
             (.ite (.not (.eq (.var 11) (.var 1)))
              (.fin (.e (.lit 0) .nil))
              (.need [(.pre 39 (.l (.lit []) (.e (.lit 1) .nil)))]
              (.call 39 (.l (.lit []) (.e (.lit 1) .nil)) 1
              (.ite (.lt (.var 13) (.lit 0))
               (.fin (.e (.lit 0) .nil))
               (.ite (.not (.eq (.var 13) (.var 8)))
                (.fin (.e (.lit 0) .nil))
                (.fin (.e (.lit 1) .nil)))))))
             (.fin (.e (.lit 0) .nil))))))))))))))
         (.fin (.e (.lit 0) .nil)))))
        (.fin (.e (.lit 0) .nil)))))))))
     (.fin (.e (.lit 0) .nil)))))
    (.need [(.pre 37 (.l (.var 2) (.l (.var 1) .nil)))]
    (.call 37 (.l (.var 2) (.l (.var 1) .nil)) 1
    (.ite (.eq (.var 4) (.lit 1))
     (.ite (.not (.eq (.var 3) (.var 1)))
      (.fin (.e (.lit 0) .nil))
      (.need [(.b (.le (.len (.var 0)) (.lit 1099511627776)))]
      (.call 16 (.l (.var 0) (.l (.var 0) .nil)) 1
      (.ite (.not (.eq (.var 5) (.lit 1)))
       (.fin (.e (.lit 0) .nil))
       (.need [(.pre 27 (.l (.var 0) (.e (.lit 1) .nil)))]
       (.calll 27 (.l (.var 0) (.e (.lit 1) .nil)) [⟨(-9223372036854775808), 9223372036854775807⟩] [(⟨(-9223372036854775808), 9223372036854775807⟩, 9223372036854775807)]
       (.ite (.le (.lit 0) (.var 6))
        (.need [(.pre 37 (.l (.var 2) (.l (.var 1) .nil)))]
        (.call 37 (.l (.var 2) (.l (.var 1) .nil)) 1
        (.ite (.eq (.var 7) (.lit 1))
         (.need [(.pre 38 (.l (.var 2) (.e (.lit 1) .nil)))]
         (.calll 38 (.l (.var 2) (.e (.lit 1) .nil)) [⟨(-9223372036854775808), 9223372036854775807⟩] [(⟨(-9223372036854775808), 9223372036854775807⟩, 18446744073709551614)]
         (.need [(.pre 39 (.l (.var 4) (.e (.lit 1) .nil)))]
         (.call 39 (.l (.var 4) (.e (.lit 1) .nil)) 1
         (.ite (.lt (.var 9) (.lit 0))
          (.fin (.e (.lit 0) .nil))
          (.ite (.not (.eq (.var 9) (.var 8)))
           (.fin (.e (.lit 0) .nil))
           (.need [(.b (.le (.len (.var 0)) (.lit 1099511627776)))]
           (.calll 36 (.l (.var 0) .nil) [⟨0, 1⟩, ⟨(-9223372036854775808), 9223372036854775807⟩] [(⟨(-9223372036854775808), 9223372036854775807⟩, 1099511627776)]
           (.ite (.eq (.var 10) (.lit 1))
            (.need [(.pre 37 (.l (.lit []) (.l (.var 1) .nil)))]
            (.call 37 (.l (.lit []) (.l (.var 1) .nil)) 1
            (.ite (.eq (.var 12) (.lit 1))
             (.ite (.not (.eq (.var 11) (.var 1)))
              (.fin (.e (.lit 0) .nil))
              (.need [(.pre 39 (.l (.var 4) (.e (.lit 1) .nil)))]
              (.call 39 (.l (.var 4) (.e (.lit 1) .nil)) 1
              (.ite (.lt (.var 13) (.lit 0))
               (.fin (.e (.lit 0) .nil))
               (.ite (.not (.eq (.var 13) (.var 8)))
                (.fin (.e (.lit 0) .nil))
                (.fin (.e (.lit 1) .nil)))))))
             (.fin (.e (.lit 0) .nil)))))
            (.need [(.pre 37 (.l (.var 5) (.l (.var 1) .nil)))]
            (.call 37 (.l (.var 5) (.l (.var 1) .nil)) 1
            (.ite (.eq (.var 12) (.lit 1))
             (.ite (.not (.eq (.var 11) (.var 1)))
              (.fin (.e (.lit 0) .nil))
              (.need [(.pre 39 (.l (.var 4) (.e (.lit 1) .nil)))]
              (.call 39 (.l (.var 4) (.e (.lit 1) .nil)) 1
              (.ite (.lt (.var 13) (.lit 0))
               (.fin (.e (.lit 0) .nil))
               (.ite (.not (.eq (.var 13) (.var 8)))
                (.fin (.e (.lit 0) .nil))
                (.fin (.e (.lit 1) .nil)))))))
             (.fin (.e (.lit 0) .nil))))))))))))))
         (.fin (.e (.lit 0) .nil)))))
        (.fin (.e (.lit 0) .nil)))))))))
     (.fin (.e (.lit 0) .nil))))))))))))
theorem vc11 : vcOfI ⟨c11, []⟩ iv11 (parLvs s11.params) 250 Try.f11 s11 = t11 := by kernel_rfl
set_option linter.unusedVariables false in
def p11 (T : Tab) (I : Nat → Env → Env → Prop) (M : Nat → Env → Env → Nat) (pre : Nat → List Int → List (List Int) → Prop) (post : List Int → List (List Int) → Prop) (l0 : List Int) : Prop :=
 ((decide ((1048576 : Int) < (List.length l0 : Int)) = true →
  post [1] []) ∧ (decide ((1048576 : Int) < (List.length l0 : Int)) = false →
  ((decide (((List.length l0 : Int) : Int) ≤ 1099511627776) = true) ∧ ((decide (((List.length l0 : Int) : Int) ≤ 1099511627776) = true) →
  ∀ v0 v1 : Int, ∀ l1 : List Int, allHas [⟨0, 1⟩, ⟨(-9223372036854775808), 9223372036854775807⟩] [v0, v1] → allL [(⟨(-9223372036854775808), 9223372036854775807⟩, 1099511627776)] [l1] → ([v0, v1], [l1]) = T.fns 35 [] [l0] →
  ((decide ((v0 : Int) = 1) = true →
   ((decide (((List.length l0 : Int) : Int) ≤ 1099511627776) = true) ∧ ((decide (((List.length l0 : Int) : Int) ≤ 1099511627776) = true) →
   ∀ v2 v3 : Int, ∀ l2 : List Int, allHas [⟨0, 1⟩, ⟨(-9223372036854775808), 9223372036854775807⟩] [v2, v3] → allL [(⟨(-9223372036854775808), 9223372036854775807⟩, 1099511627776)] [l2] → ([v2, v3], [l2]) = T.fns 36 [] [l0] →
   ((decide ((v2 : Int) = 1) = true →
    ((pre 37 [] [([] : List Int), ([] : List Int)]) ∧ ((pre 37 [] [([] : List Int), ([] : List Int)]) →
    ∀ v4 : Int, [v4] = T.outL 37 1 [] [([] : List Int), ([] : List Int)] →
    ((decide ((v4 : Int) = 1) = true →
     (((!decide ((v3 : Int) = v1)) = true →
      post [0] []) ∧ ((!decide ((v3 : Int) = v1)) = false →
      ((decide (((List.length l0 : Int) : Int) ≤ 1099511627776) = true) ∧ ((decide (((List.length l0 : Int) : Int) ≤ 1099511627776) = true) →
      ∀ v5 : Int, [v5] = T.outL 16 1 [] [l0, l0] →
      (((!decide ((v5 : Int) = 1)) = true →
       post [0] []) ∧ ((!decide ((v5 : Int) = 1)) = false →
       ((pre 27 [1] [l0]) ∧ ((pre 27 [1] [l0]) →
       ∀ v6 : Int, ∀ l3 : List Int, allHas [⟨(-9223372036854775808), 9223372036854775807⟩] [v6] → allL [(⟨(-9223372036854775808), 9223372036854775807⟩, 9223372036854775807)] [l3] → ([v6], [l3]) = T.fns 27 [1] [l0] →
       ((decide ((0 : Int) ≤ v6) = true →
        ((pre 37 [] [([] : List Int), ([] : List Int)]) ∧ ((pre 37 [] [([] : List Int), ([] : List Int)]) →
        ∀ v7 : Int, [v7] = T.outL 37 1 [] [([] : List Int), ([] : List Int)] →
        ((decide ((v7 : Int) = 1) = true →
         ((pre 38 [1] [([] : List Int)]) ∧ ((pre 38 [1] [([] : List Int)]) →
         ∀ v8 : Int, ∀ l4 : List Int, allHas [⟨(-9223372036854775808), 9223372036854775807⟩] [v8] → allL [(⟨(-9223372036854775808), 9223372036854775807⟩, 18446744073709551614)] [l4] → ([v8], [l4]) = T.fns 38 [1] [([] : List Int)] →
         ((pre 39 [1] [([] : List Int)]) ∧ ((pre 39 [1] [([] : List Int)]) →
         ∀ v9 : Int, [v9] = T.outL 39 1 [1] [([] : List Int)] →
         ((decide ((v9 : Int) < 0) = true →
          post [0] []) ∧ (decide ((v9 : Int) < 0) = false →
          (((!decide ((v9 : Int) = v8)) = true →
           post [0] []) ∧ ((!decide ((v9 : Int) = v8)) = false →
           ((decide (((List.length l0 : Int) : Int) ≤ 1099511627776) = true) ∧ ((decide (((List.length l0 : Int) : Int) ≤ 1099511627776) = true) →
           ∀ v10 v11 : Int, ∀ l5 : List Int, allHas [⟨0, 1⟩, ⟨(-9223372036854775808), 9223372036854775807⟩] [v10, v11] → allL [(⟨(-9223372036854775808), 9223372036854775807⟩, 1099511627776)] [l5] → ([v10, v11], [l5]) = T.fns 36 [] [l0] →
           ((decide ((v10 : Int) = 1) = true →
            ((pre 37 [] [([] : List Int), ([] : List Int)]) ∧ ((pre 37 [] [([] : List Int), ([] : List Int)]) →
            ∀ v12 : Int, [v12] = T.outL 37 1 [] [([] : List Int), ([] : List Int)] →
            ((decide ((v12 : Int) = 1) = true →
             (((!decide ((v11 : Int) = v1)) = true →
              post [0] []) ∧ ((!decide ((v11 : Int) = v1)) = false →
              ((pre 39 [1] [([] : List Int)]) ∧ ((pre 39 [1] [([] : List Int)]) →
              ∀ v13 : Int, [v13] = T.outL 39 1 [1] [([] : List Int)] →
              ((decide ((v13 : Int) < 0) = true →
               post [0] []) ∧ (decide ((v13 : Int) < 0) = false →
               (((!decide ((v13 : Int) = v8)) = true →
                post [0] []) ∧ ((!decide ((v13 : Int) = v8)) = false →
                post [1] []))))))))) ∧ (decide ((v12 : Int) = 1) = false →
             post [0] []))))) ∧ (decide ((v10 : Int) = 1) = false →
            ((pre 37 [] [l5, ([] : List Int)]) ∧ ((pre 37 [] [l5, ([] : List Int)]) →
            ∀ v12 : Int, [v12] = T.outL 37 1 [] [l5, ([] : List Int)] →
            ((decide ((v12 : Int) = 1) = true →
             (((!decide ((v11 : Int) = v1)) = true →
              post [0] []) ∧ ((!decide ((v11 : Int) = v1)) = false →
              ((pre 39 [1] [([] : List Int)]) ∧ ((pre 39 [1] [([] : List Int)]) →
              ∀ v13 : Int, [v13] = T.outL 39 1 [1] [([] : List Int)] →
              ((decide ((v13 : Int) < 0) = true →
               post [0] []) ∧ (decide ((v13 : Int) < 0) = false →
               (((!decide ((v13 : Int) = v8)) = true →
                post [0] []) ∧ ((!decide ((v13 : Int) = v8)) = false →
                post [1] []))))))))) ∧ (decide ((v12 : Int) = 1) = false →
             post [0] []))))))))))))))))) ∧ (decide ((v7 : Int) = 1) = false →
         post [0] []))))) ∧ (decide ((0 : Int) ≤ v6) = false →
        post [0] []))))))))))) ∧ (decide ((v4 : Int) = 1) = false →
     post [0] []))))) ∧ (decide ((v2 : Int) = 1) = false →
    ((pre 37 [] [l2, ([] : List Int)]) ∧ ((pre 37 [] [l2, ([] : List Int)]) →
    ∀ v4 : Int, [v4] = T.outL 37 1 [] [l2, ([] : List Int)] →
    ((decide ((v4 : Int) = 1) = true →
     (((!decide ((v3 : Int) = v1)) = true →
      post [0] []) ∧ ((!decide ((v3 : Int) = v1)) = false →
      ((decide (((List.length l0 : Int) : Int) ≤ 1099511627776) = true) ∧ ((decide (((List.length l0 : Int) : Int) ≤ 1099511627776) = true) →
      ∀ v5 : Int, [v5] = T.outL 16 1 [] [l0, l0] →
      (((!decide ((v5 : Int) = 1)) = true →
       post [0] []) ∧ ((!decide ((v5 : Int) = 1)) = false →
       ((pre 27 [1] [l0]) ∧ ((pre 27 [1] [l0]) →
       ∀ v6 : Int, ∀ l3 : List Int, allHas [⟨(-9223372036854775808), 9223372036854775807⟩] [v6] → allL [(⟨(-9223372036854775808), 9223372036854775807⟩, 9223372036854775807)] [l3] → ([v6], [l3]) = T.fns 27 [1] [l0] →
       ((decide ((0 : Int) ≤ v6) = true →
        ((pre 37 [] [l2, ([] : List Int)]) ∧ ((pre 37 [] [l2, ([] : List Int)]) →
        ∀ v7 : Int, [v7] = T.outL 37 1 [] [l2, ([] : List Int)] →
        ((decide ((v7 : Int) = 1) = true →
         ((pre 38 [1] [l2]) ∧ ((pre 38 [1] [l2]) →
         ∀ v8 : Int, ∀ l4 : List Int, allHas [⟨(-9223372036854775808), 9223372036854775807⟩] [v8] → allL [(⟨(-9223372036854775808), 9223372036854775807⟩, 18446744073709551614)] [l4] → ([v8], [l4]) = T.fns 38 [1] [l2] →
         ((pre 39 [1] [l4]) ∧ ((pre 39 [1] [l4]) →
         ∀ v9 : Int, [v9] = T.outL 39 1 [1] [l4] →
         ((decide ((v9 : Int) < 0) = true →
          post [0] []) ∧ (decide ((v9 : Int) < 0) = false →
          (((!decide ((v9 : Int) = v8)) = true →
           post [0] []) ∧ ((!decide ((v9 : Int) = v8)) = false →
           ((decide (((List.length l0 : Int) : Int) ≤ 1099511627776) = true) ∧ ((decide (((List.length l0 : Int) : Int) ≤ 1099511627776) = true) →
           ∀ v10 v11 : Int, ∀ l5 : List Int, allHas [⟨0, 1⟩, ⟨(-9223372036854775808), 9223372036854775807⟩] [v10, v11] → allL [(⟨(-9223372036854775808), 9223372036854775807⟩, 1099511627776)] [l5] → ([v10, v11], [l5]) = T.fns 36 [] [l0] →
           ((decide ((v10 : Int) = 1) = true →
            ((pre 37 [] [([] : List Int), ([] : List Int)]) ∧ ((pre 37 [] [([] : List Int), ([] : List Int)]) →
            ∀ v12 : Int, [v12] = T.outL 37 1 [] [([] : List Int), ([] : List Int)] →
            ((decide ((v12 : Int) = 1) = true →
             (((!decide ((v11 : Int) = v1)) = true →
              post [0] []) ∧ ((!decide ((v11 : Int) = v1)) = false →
              ((pre 39 [1] [l4]) ∧ ((pre 39 [1] [l4]) →
              ∀ v13 : Int, [v13] = T.outL 39 1 [1] [l4] →
              ((decide ((v13 : Int) < 0) = true →
               post [0] []) ∧ (decide ((v13 : Int) < 0) = false →
               (((!decide ((v13 : Int) = v8)) = true →
                post [0] []) ∧ ((!decide ((v13 : Int) = v8)) = false →
                post [1] []))))))))) ∧ (decide ((v12 : Int) = 1) = false →
             post [0] []))))) ∧ (decide ((v10 : Int) = 1) = false →
            ((pre 37 [] [l5, ([] : List Int)]) ∧ ((pre 37 [] [l5, ([] : List Int)]) →
            ∀ v12 : Int, [v12] = T.outL 37 1 [] [l5, ([] : List Int)] →
            ((decide ((v12 : Int) = 1) = true →
             (((!decide ((v11 : Int) = v1)) = true →
              post [0] []) ∧ ((!decide ((v11 : Int) = v1)) = false →
              ((pre 39 [1] [l4]) ∧ ((pre 39 [1] [l4]) →
              ∀ v13 : Int, [v13] = T.outL 39 1 [1] [l4] →
              ((decide ((v13 : Int) < 0) = true →
               post [0] []) ∧ (decide ((v13 : Int) < 0) = false →
               (((!decide ((v13 : Int) = v8)) = true →
                post [0] []) ∧ ((!decide ((v13 : Int) = v8)) = false →
                post [1] []))))))))) ∧ (decide ((v12 : Int) = 1) = false →
             post [0] []))))))))))))))))) ∧ (decide ((v7 : Int) = 1) = false →
         post [0] []))))) ∧ (decide ((0 : Int) ≤ v6) = false →
        post [0] []))))))))))) ∧ (decide ((v4 : Int) = 1) = false →
     post [0] []))))))))) ∧ (decide ((v0 : Int) = 1) = false →
   ((decide (((List.length l0 : Int) : Int) ≤ 1099511627776) = true) ∧ ((decide (((List.length l0 : Int) : Int) ≤ 1099511627776) = true) →
   ∀ v2 v3 : Int, ∀ l2 : List Int, allHas [⟨0, 1⟩, ⟨(-9223372036854775808), 9223372036854775807⟩] [v2, v3] → allL [(⟨(-9223372036854775808), 9223372036854775807⟩, 1099511627776)] [l2] → ([v2, v3], [l2]) = T.fns 36 [] [l0] →
   ((decide ((v2 : Int) = 1) = true →
    ((pre 37 [] [([] : List Int), l1]) ∧ ((pre 37 [] [([] : List Int), l1]) →
    ∀ v4 : Int, [v4] = T.outL 37 1 [] [([] : List Int), l1] →
    ((decide ((v4 : Int) = 1) = true →
     (((!decide ((v3 : Int) = v1)) = true →
      post [0] []) ∧ ((!decide ((v3 : Int) = v1)) = false →
      ((decide (((List.length l0 : Int) : Int) ≤ 1099511627776) = true) ∧ ((decide (((List.length l0 : Int) : Int) ≤ 1099511627776) = true) →
      ∀ v5 : Int, [v5] = T.outL 16 1 [] [l0, l0] →
      (((!decide ((v5 : Int) = 1)) = true →
       post [0] []) ∧ ((!decide ((v5 : Int) = 1)) = false →
       ((pre 27 [1] [l0]) ∧ ((pre 27 [1] [l0]) →
       ∀ v6 : Int, ∀ l3 : List Int, allHas [⟨(-9223372036854775808), 9223372036854775807⟩] [v6] → allL [(⟨(-9223372036854775808), 9223372036854775807⟩, 9223372036854775807)] [l3] → ([v6], [l3]) = T.fns 27 [1] [l0] →
       ((decide ((0 : Int) ≤ v6) = true →
        ((pre 37 [] [([] : List Int), l1]) ∧ ((pre 37 [] [([] : List Int), l1]) →
        ∀ v7 : Int, [v7] = T.outL 37 1 [] [([] : List Int), l1] →
        ((decide ((v7 : Int) = 1) = true →
         ((pre 38 [1] [([] : List Int)]) ∧ ((pre 38 [1] [([] : List Int)]) →
         ∀ v8 : Int, ∀ l4 : List Int, allHas [⟨(-9223372036854775808), 9223372036854775807⟩] [v8] → allL [(⟨(-9223372036854775808), 9223372036854775807⟩, 18446744073709551614)] [l4] → ([v8], [l4]) = T.fns 38 [1] [([] : List Int)] →
         ((pre 39 [1] [([] : List Int)]) ∧ ((pre 39 [1] [([] : List Int)]) →
         ∀ v9 : Int, [v9] = T.outL 39 1 [1] [([] : List Int)] →
         ((decide ((v9 : Int) < 0) = true →
          post [0] []) ∧ (decide ((v9 : Int) < 0) = false →
          (((!decide ((v9 : Int) = v8)) = true →
           post [0] []) ∧ ((!decide ((v9 : Int) = v8)) = false →
           ((decide (((List.length l0 : Int) : Int) ≤ 1099511627776) = true) ∧ ((decide (((List.length l0 : Int) : Int) ≤ 1099511627776) = true) →
           ∀ v10 v11 : Int, ∀ l5 : List Int, allHas [⟨0, 1⟩, ⟨(-9223372036854775808), 9223372036854775807⟩] [v10, v11] → allL [(⟨(-9223372036854775808), 9223372036854775807⟩, 1099511627776)] [l5] → ([v10, v11], [l5]) = T.fns 36 [] [l0] →
           ((decide ((v10 : Int) = 1) = true →
            ((pre 37 [] [([] : List Int), l1]) ∧ ((pre 37 [] [([] : List Int), l1]) →
            ∀ v12 : Int, [v12] = T.outL 37 1 [] [([] : List Int), l1] →
            ((decide ((v12 : Int) = 1) = true →
             (((!decide ((v11 : Int) = v1)) = true →
              post [0] []) ∧ ((!decide ((v11 : Int) = v1)) = false →
              ((pre 39 [1] [([] : List Int)]) ∧ ((pre 39 [1] [([] : List Int)]) →
              ∀ v13 : Int, [v13] = T.outL 39 1 [1] [([] : List Int)] →
              ((decide ((v13 : Int) < 0) = true →
               post [0] []) ∧ (decide ((v13 : Int) < 0) = false →
               (((!decide ((v13 : Int) = v8)) = true →
                post [0] []) ∧ ((!decide ((v13 : Int) = v8)) = false →
                post [1] []))))))))) ∧ (decide ((v12 : Int) = 1) = false →
             post [0] []))))) ∧ (decide ((v10 : Int) = 1) = false →
            ((pre 37 [] [l5, l1]) ∧ ((pre 37 [] [l5, l1]) →
            ∀ v12 : Int, [v12] = T.outL 37 1 [] [l5, l1] →
            ((decide ((v12 : Int) = 1) = true →
             (((!decide ((v11 : Int) = v1)) = true →
              post [0] []) ∧ ((!decide ((v11 : Int) = v1)) = false →
              ((pre 39 [1] [([] : List Int)]) ∧ ((pre 39 [1] [([] : List Int)]) →
              ∀ v13 : Int, [v13] = T.outL 39 1 [1] [([] : List Int)] →
              ((decide ((v13 : Int) < 0) = true →
               post [0] []) ∧ (decide ((v13 : Int) < 0) = false →
               (((!decide ((v13 : Int) = v8)) = true →
                post [0] []) ∧ ((!decide ((v13 : Int) = v8)) = false →
                post [1] []))))))))) ∧ (decide ((v12 : Int) = 1) = false →
             post [0] []))))))))))))))))) ∧ (decide ((v7 : Int) = 1) = false →
         post [0] []))))) ∧ (decide ((0 : Int) ≤ v6) = false →
        post [0] []))))))))))) ∧ (decide ((v4 : Int) = 1) = false →
     post [0] []))))) ∧ (decide ((v2 : Int) = 1) = false →
    ((pre 37 [] [l2, l1]) ∧ ((pre 37 [] [l2, l1]) →
    ∀ v4 : Int, [v4] = T.outL 37 1 [] [l2, l1] →
    ((decide ((v4 : Int) = 1) = true →
     (((!decide ((v3 : Int) = v1)) = true →
      post [0] []) ∧ ((!decide ((v3 : Int) = v1)) = false →
      ((decide (((List.length l0 : Int) : Int) ≤ 1099511627776) = true) ∧ ((decide (((List.length l0 : Int) : Int) ≤ 1099511627776) = true) →
      ∀ v5 : Int, [v5] = T.outL 16 1 [] [l0, l0] →
      (((!decide ((v5 : Int) = 1)) = true →
       post [0] []) ∧ ((!decide ((v5 : Int) = 1)) = false →
       ((pre 27 [1] [l0]) ∧ ((pre 27 [1] [l0]) →
       ∀ v6 : Int, ∀ l3 : List Int, allHas [⟨(-9223372036854775808), 9223372036854775807⟩] [v6] → allL [(⟨(-9223372036854775808), 9223372036854775807⟩, 9223372036854775807)] [l3] → ([v6], [l3]) = T.fns 27 [1] [l0] →
       ((decide ((0 : Int) ≤ v6) = true →
        ((pre 37 [] [l2, l1]) ∧ ((pre 37 [] [l2, l1]) →
        ∀ v7 : Int, [v7] = T.outL 37 1 [] [l2, l1] →
        ((decide ((v7 : Int) = 1) = true →
         ((pre 38 [1] [l2]) ∧ ((pre 38 [1] [l2]) →
         ∀ v8 : Int, ∀ l4 : List Int, allHas [⟨(-9223372036854775808), 9223372036854775807⟩] [v8] → allL [(⟨(-9223372036854775808), 9223372036854775807⟩, 18446744073709551614)] [l4] → ([v8], [l4]) = T.fns 38 [1] [l2] →
         ((pre 39 [1] [l4]) ∧ ((pre 39 [1] [l4]) →
         ∀ v9 : Int, [v9] = T.outL 39 1 [1] [l4] →
         ((decide ((v9 : Int) < 0) = true →
          post [0] []) ∧ (decide ((v9 : Int) < 0) = false →
          (((!decide ((v9 : Int) = v8)) = true →
           post [0] []) ∧ ((!decide ((v9 : Int) = v8)) = false →
           ((decide (((List.length l0 : Int) : Int) ≤ 1099511627776) = true) ∧ ((decide (((List.length l0 : Int) : Int) ≤ 1099511627776) = true) →
           ∀ v10 v11 : Int, ∀ l5 : List Int, allHas [⟨0, 1⟩, ⟨(-9223372036854775808), 9223372036854775807⟩] [v10, v11] → allL [(⟨(-9223372036854775808), 9223372036854775807⟩, 1099511627776)] [l5] → ([v10, v11], [l5]) = T.fns 36 [] [l0] →
           ((decide ((v10 : Int) = 1) = true →
            ((pre 37 [] [([] : List Int), l1]) ∧ ((pre 37 [] [([] : List Int), l1]) →
            ∀ v12 : Int, [v12] = T.outL 37 1 [] [([] : List Int), l1] →
            ((decide ((v12 : Int) = 1) = true →
             (((!decide ((v11 : Int) = v1)) = true →
              post [0] []) ∧ ((!decide ((v11 : Int) = v1)) = false →
              ((pre 39 [1] [l4]) ∧ ((pre 39 [1] [l4]) →
              ∀ v13 : Int, [v13] = T.outL 39 1 [1] [l4] →
              ((decide ((v13 : Int) < 0) = true →
               post [0] []) ∧ (decide ((v13 : Int) < 0) = false →
               (((!decide ((v13 : Int) = v8)) = true →
                post [0] []) ∧ ((!decide ((v13 : Int) = v8)) = false →
                post [1] []))))))))) ∧ (decide ((v12 : Int) = 1) = false →
             post [0] []))))) ∧ (decide ((v10 : Int) = 1) = false →
            ((pre 37 [] [l5, l1]) ∧ ((pre 37 [] [l5, l1]) →
            ∀ v12 : Int, [v12] = T.outL 37 1 [] [l5, l1] →
            ((decide ((v12 : Int) = 1) = true →
             (((!decide ((v11 : Int) = v1)) = true →
              post [0] []) ∧ ((!decide ((v11 : Int) = v1)) = false →
              ((pre 39 [1] [l4]) ∧ ((pre 39 [1] [l4]) →
              ∀ v13 : Int, [v13] = T.outL 39 1 [1] [l4] →
              ((decide ((v13 : Int) < 0) = true →
               post [0] []) ∧ (decide ((v13 : Int) < 0) = false →
               (((!decide ((v13 : Int) = v8)) = true →
                post [0] []) ∧ ((!decide ((v13 : Int) = v8)) = false →
                post [1] []))))))))) ∧ (decide ((v12 : Int) = 1) = false →
             post [0] []))))))))))))))))) ∧ (decide ((v7 : Int) = 1) = false →
         post [0] []))))) ∧ (decide ((0 : Int) ≤ v6) = false →
        post [0] []))))))))))) ∧ (decide ((v4 : Int) = 1) = false →
     post [0] []))))))))))))))
theorem q11 (T : Tab) (I : Nat → Env → Env → Prop) (M : Nat → Env → Env → Nat) (pre : Nat → List Int → List (List Int) → Prop) (post : List Int → List (List Int) → Prop) (l0 : List Int) : t11.plain T (presG pre I M) post ⟨[], [l0]⟩ = p11 T I M pre post l0 := by kernel_rfl
theorem k11 (T : Tab) (I : Nat → Env → Env → Prop) (M : Nat → Env → Env → Nat) (pre : Nat → List Int → List (List Int) → Prop) (hs : SubSig T c11.sigs) (ht : TotG pre c11.sigs) (hg : T.sig 11 = some s11) (hC : CtAll Try.prog T.fns (presQ pre) c11.sigs) (hk : CpAll Try.prog c11.cps) (hlf : LfAll Try.prog T.fns (presQ pre) c11.lfs) (hwf : WfAll Try.prog T.fns (presQ pre) c11.wfs) (hi : ∀ xs ls, allHas (parIvs s11.params) xs → pre 11 xs ls → allHas iv11 xs)
    (h : ∀ (l0 : List Int), allHas iv11 [] → allL (parLvs s11.params) [l0] → pre 11 [] [l0] → p11 T I M pre (fun ys _ => ys = T.app 11 [] [l0]) l0) : CT Try.prog T.fns (presQ pre) 11 s11 :=
  T.ctg (hlf := hlf) (hwf := hwf) (F := ⟨c11, []⟩) (fuel := 250) vc11 Try.checked.mixed hs ht hg hC hk Try.func11 I M (fun xs ls h1 h2 h3 => ⟨hi xs ls h1 h3, h2⟩) fun xs ls hx hl hp => by
    match xs, ls, hx, hl, hp with
    | [], [l0], hx, hl, hp => rw [q11]; exact h l0 hx hl hp
end Go.Proofs.Ytfpodondpanmaaa.Sx
