import Derived.Test.YtfpodondpanmaaaSxX
import Derived.Test.YtfpodondpanmaaaG1
import Derived.Test.YtfpodondpanmaaaChecked
import Derived.KernelRfl
namespace Go.Proofs.Ytfpodondpanmaaa.Sx
open Go Go.RowKit
/-- loop.example/g01242/spec.l04Period -/
def s52 : LSig := ⟨[.val false [.i .i64]], [.n false [.i .i64], .l false [[.i64]] [2], .n false [.i .i64]], true⟩
noncomputable def c52 : Cfg := ⟨Try.prog, [(62, s62), (70, s70)], [], [], [], []⟩
def iv52 : List Iv := [⟨(-9223372036854775808), 9223372036854775807⟩]
def t52 : VC :=
 (.call 62 (.e (.var 0) (.e (.lit 0) (.e (.lit 1000000) .nil))) 1
 (.ite (.not (.eq (.var 1) (.lit 1)))
  (.need []
  (.fin (.e (.lit 0) (.e (.lit 0) (.e (.lit 2) (.l (.lit []) .nil))))))
  (.need [(.pre 70 (.e (.var 0) .nil))]
  (.call 70 (.e (.var 0) .nil) 1
  (.ite (.eq (.wrap .i64 (.mul (.var 2) (.var 2))) (.var 0))
   (.need []
   (.fin (.e (.lit 0) (.e (.var 2) (.e (.lit 0) (.l (.lit []) .nil))))))
   (.ite (.not (.eq (.var 2) (.wrap .i64 (.mul (.lit 2) (.var 2)))))
    (.bind (.wrap .i64 (.mul (.lit 1) (.var 2)))
    (.bind (.wrap .i64 (.tdiv (.wrap .i64 (.sub (.var 0) (.wrap .i64 (.mul (.var 3) (.var 3))))) (.lit 1)))
    (.need [(.b (.not (.eq (.var 4) (.lit 0))))]
    (.bind (.wrap .i64 (.tdiv (.wrap .i64 (.add (.var 2) (.var 3))) (.var 4)))
    (.loop 0 [(.var 3), (.var 4), (.var 5)] [(.one (.var 5))] [⟨(-9223372036854775808), 9223372036854775807⟩, ⟨(-9223372036854775808), 9223372036854775807⟩, ⟨(-9223372036854775808), 9223372036854775807⟩] [(⟨(-9223372036854775808), 9223372036854775807⟩, 9223372036854775807)]
     (.ite (.not (.eq (.var 8) (.wrap .i64 (.mul (.lit 2) (.var 2)))))
      (.bind (.wrap .i64 (.sub (.wrap .i64 (.mul (.var 7) (.var 8))) (.var 6)))
      (.need [(.b (.not (.eq (.var 7) (.lit 0))))]
      (.bind (.wrap .i64 (.tdiv (.wrap .i64 (.sub (.var 0) (.wrap .i64 (.mul (.var 9) (.var 9))))) (.var 7)))
      (.need [(.b (.not (.eq (.var 10) (.lit 0))))]
      (.bind (.wrap .i64 (.tdiv (.wrap .i64 (.add (.var 2) (.var 9))) (.var 10)))
      (.ite (.eq (.len (.var 0)) (.lit 3000))
       (.need []
       (.fin (.e (.lit 0) (.e (.lit 0) (.e (.lit 3) (.l (.lit []) .nil))))))
       (.need [(.b (.le (.len (.cat (.var 0) (.one (.var 11)))) (.lit 1099511627776)))]
       (.need [(.b (.le (.len (.cat (.var 0) (.one (.var 11)))) (.lit 9223372036854775807)))]
       (.again 0 6 0 [⟨(-9223372036854775808), 9223372036854775807⟩, ⟨(-9223372036854775808), 9223372036854775807⟩, ⟨(-9223372036854775808), 9223372036854775807⟩] [(.var 9), (.var 10), (.var 11)] [(.cat (.var 0) (.one (.var 11)))])))))))))
      (.need [(.b (.eq (.len (.var 0)) (.len (.var 0)))), (.b (.le (.len (.var 0)) (.lit 1099511627776)))]
      (.fin (.e (.lit 0) (.e (.var 2) (.e (.lit 0) (.l (.var 0) .nil))))))))))))
    (.need []
    (.fin (.e (.lit 0) (.e (.var 2) (.e (.lit 0) (.l (.lit []) .nil))))))))))))
theorem vc52 : vcLf ⟨c52, [(10, ⟨0, [7, 8, 9], [], [25, 26, 27, 28, 29, 30, 31, 32, 33, 34, 35, 36, 37, 38, 39, 40, 41, 42, 43, 44, 45, 46, 47, 48, 49, 2, 3, 4, 50, 51, 52, 53, 6], [⟨(-9223372036854775808), 9223372036854775807⟩, ⟨(-9223372036854775808), 9223372036854775807⟩, ⟨(-9223372036854775808), 9223372036854775807⟩], [2], [2]⟩)]⟩ iv52 (parLvs s52.params) 250 Try.f52 s52 = t52 := by kernel_rfl
set_option linter.unusedVariables false in
def p52 (T : Tab) (I : Nat → Env → Env → Prop) (M : Nat → Env → Env → Nat) (pre : Nat → List Int → List (List Int) → Prop) (post : List Int → List (List Int) → Prop) (v0 : Int) : Prop :=
 ∀ v1 : Int, [v1] = T.out 62 1 [v0, 0, 1000000] →
 (((!decide ((v1 : Int) = 1)) = true →
  ((True) ∧ ((True) →
  post [0, 0, 2] [([] : List Int)]))) ∧ ((!decide ((v1 : Int) = 1)) = false →
  ((pre 70 [v0] []) ∧ ((pre 70 [v0] []) →
  ∀ v2 : Int, [v2] = T.out 70 1 [v0] →
  ((decide (((IntKind.wrap .i64 (v2 * v2)) : Int) = v0) = true →
   ((True) ∧ ((True) →
   post [0, v2, 0] [([] : List Int)]))) ∧ (decide (((IntKind.wrap .i64 (v2 * v2)) : Int) = v0) = false →
   (((!decide ((v2 : Int) = (IntKind.wrap .i64 (2 * v2)))) = true →
    ∀ v3 : Int, v3 = (IntKind.wrap .i64 (1 * v2)) →
    ∀ v4 : Int, v4 = (IntKind.wrap .i64 (Int.tdiv (IntKind.wrap .i64 (v0 - (IntKind.wrap .i64 (v3 * v3)))) 1)) →
    (((!decide ((v4 : Int) = 0)) = true) ∧ (((!decide ((v4 : Int) = 0)) = true) →
    ∀ v5 : Int, v5 = (IntKind.wrap .i64 (Int.tdiv (IntKind.wrap .i64 (v2 + v3)) v4)) →
    ((allHas [⟨(-9223372036854775808), 9223372036854775807⟩, ⟨(-9223372036854775808), 9223372036854775807⟩, ⟨(-9223372036854775808), 9223372036854775807⟩] [v3, v4, v5] ∧ I 0 ⟨[v0, v1, v2, v3, v4, v5], []⟩ ⟨[v3, v4, v5], [[v5]]⟩) ∧ ∀ v6 v7 v8 : Int, ∀ l0 : List Int, allHas [⟨(-9223372036854775808), 9223372036854775807⟩, ⟨(-9223372036854775808), 9223372036854775807⟩, ⟨(-9223372036854775808), 9223372036854775807⟩] [v6, v7, v8] → allL [(⟨(-9223372036854775808), 9223372036854775807⟩, 9223372036854775807)] [l0] → I 0 ⟨[v0, v1, v2, v3, v4, v5], []⟩ ⟨[v6, v7, v8], [l0]⟩ →
     (((!decide ((v8 : Int) = (IntKind.wrap .i64 (2 * v2)))) = true →
      ∀ v9 : Int, v9 = (IntKind.wrap .i64 ((IntKind.wrap .i64 (v7 * v8)) - v6)) →
      (((!decide ((v7 : Int) = 0)) = true) ∧ (((!decide ((v7 : Int) = 0)) = true) →
      ∀ v10 : Int, v10 = (IntKind.wrap .i64 (Int.tdiv (IntKind.wrap .i64 (v0 - (IntKind.wrap .i64 (v9 * v9)))) v7)) →
      (((!decide ((v10 : Int) = 0)) = true) ∧ (((!decide ((v10 : Int) = 0)) = true) →
      ∀ v11 : Int, v11 = (IntKind.wrap .i64 (Int.tdiv (IntKind.wrap .i64 (v2 + v9)) v10)) →
      ((decide (((List.length l0 : Int) : Int) = 3000) = true →
       ((True) ∧ ((True) →
       post [0, 0, 3] [([] : List Int)]))) ∧ (decide (((List.length l0 : Int) : Int) = 3000) = false →
       ((decide (((List.length (l0 ++ [v11]) : Int) : Int) ≤ 1099511627776) = true) ∧ ((decide (((List.length (l0 ++ [v11]) : Int) : Int) ≤ 1099511627776) = true) →
       ((decide (((List.length (l0 ++ [v11]) : Int) : Int) ≤ 9223372036854775807) = true) ∧ ((decide (((List.length (l0 ++ [v11]) : Int) : Int) ≤ 9223372036854775807) = true) →
       (allHas [⟨(-9223372036854775808), 9223372036854775807⟩, ⟨(-9223372036854775808), 9223372036854775807⟩, ⟨(-9223372036854775808), 9223372036854775807⟩] [v9, v10, v11] ∧ I 0 ⟨[v0, v1, v2, v3, v4, v5], []⟩ ⟨[v9, v10, v11], [(l0 ++ [v11])]⟩ ∧ M 0 ⟨[v0, v1, v2, v3, v4, v5], []⟩ ⟨[v9, v10, v11], [(l0 ++ [v11])]⟩ < M 0 ⟨[v0, v1, v2, v3, v4, v5], []⟩ ⟨[v6, v7, v8], [l0]⟩)))))))))))) ∧ ((!decide ((v8 : Int) = (IntKind.wrap .i64 (2 * v2)))) = false →
      ((decide (((List.length l0 : Int) : Int) = (List.length l0 : Int)) = true ∧ decide (((List.length l0 : Int) : Int) ≤ 1099511627776) = true) ∧ ((decide (((List.length l0 : Int) : Int) = (List.length l0 : Int)) = true ∧ decide (((List.length l0 : Int) : Int) ≤ 1099511627776) = true) →
      post [0, v2, 0] [l0])))))))) ∧ ((!decide ((v2 : Int) = (IntKind.wrap .i64 (2 * v2)))) = false →
    ((True) ∧ ((True) →
    post [0, v2, 0] [([] : List Int)]))))))))))
theorem q52 (T : Tab) (I : Nat → Env → Env → Prop) (M : Nat → Env → Env → Nat) (pre : Nat → List Int → List (List Int) → Prop) (post : List Int → List (List Int) → Prop) (v0 : Int) : t52.plain T (presG pre I M) post ⟨[v0], []⟩ = p52 T I M pre post v0 := by kernel_rfl
theorem k52 (T : Tab) (I : Nat → Env → Env → Prop) (M : Nat → Env → Env → Nat) (pre : Nat → List Int → List (List Int) → Prop) (hs : SubSig T c52.sigs) (ht : TotG pre c52.sigs) (hC : CtAll Try.prog T.fns (presQ pre) c52.sigs) (hk : CpAll Try.prog c52.cps) (hi : ∀ xs ls, allHas (parIvs s52.params) xs → pre 52 xs ls → allHas iv52 xs)
    (h : ∀ (v0 : Int), allHas iv52 [v0] → allL (parLvs s52.params) [] → pre 52 [v0] [] → p52 T I M pre (fun ys zs => T.fns 52 [v0] [] = (ys, zs)) v0) : CTL Try.prog T.fns (presQ pre) 52 s52 :=
  T.ctl (F := ⟨c52, [(10, ⟨0, [7, 8, 9], [], [25, 26, 27, 28, 29, 30, 31, 32, 33, 34, 35, 36, 37, 38, 39, 40, 41, 42, 43, 44, 45, 46, 47, 48, 49, 2, 3, 4, 50, 51, 52, 53, 6], [⟨(-9223372036854775808), 9223372036854775807⟩, ⟨(-9223372036854775808), 9223372036854775807⟩, ⟨(-9223372036854775808), 9223372036854775807⟩], [2], [2]⟩)]⟩) (fuel := 250) vc52 Try.checked.mixed hs ht hC hk Try.func52 I M (fun xs ls h1 h2 h3 => ⟨hi xs ls h1 h3, h2⟩) fun xs ls hx hl hp => by
    match xs, ls, hx, hl, hp with
    | [v0], [], hx, hl, hp => rw [q52]; exact h v0 hx hl hp
/-- loop.example/g01242/spec.RootTerms -/
def s31 : LSig := ⟨[.val false [.i .i64]], [.n false [.i .i64], .l false [[.i64]] [2], .n false [.i .i64]], true⟩
noncomputable def c31 : Cfg := ⟨Try.prog, [], [], [(52, s52)], [], []⟩
def iv31 : List Iv := [⟨(-9223372036854775808), 9223372036854775807⟩]
def t31 : VC :=
 (.calll 52 (.e (.var 0) .nil) [⟨0, 1⟩, ⟨(-9223372036854775808), 9223372036854775807⟩, ⟨(-9223372036854775808), 9223372036854775807⟩] [(⟨(-9223372036854775808), 9223372036854775807⟩, 1099511627776)]
 (.ite (.eq (.var 1) (.lit 1))
  (.fin (.e (.lit 1) (.e (.var 2) (.e (.var 3) (.l (.lit []) .nil)))))
  (.need [(.b (.eq (.len (.var 0)) (.len (.var 0))))]
  (.fin (.e (.lit 0) (.e (.var 2) (.e (.var 3) (.l (.var 0) .nil))))))))
theorem vc31 : vcLf ⟨c31, []⟩ iv31 (parLvs s31.params) 250 Try.f31 s31 = t31 := by kernel_rfl
set_option linter.unusedVariables false in
def p31 (T : Tab) (I : Nat → Env → Env → Prop) (M : Nat → Env → Env → Nat) (pre : Nat → List Int → List (List Int) → Prop) (post : List Int → List (List Int) → Prop) (v0 : Int) : Prop :=
 ∀ v1 v2 v3 : Int, ∀ l0 : List Int, allHas [⟨0, 1⟩, ⟨(-9223372036854775808), 9223372036854775807⟩, ⟨(-9223372036854775808), 9223372036854775807⟩] [v1, v2, v3] → allL [(⟨(-9223372036854775808), 9223372036854775807⟩, 1099511627776)] [l0] → ([v1, v2, v3], [l0]) = T.fns 52 [v0] [] →
 ((decide ((v1 : Int) = 1) = true →
  post [1, v2, v3] [([] : List Int)]) ∧ (decide ((v1 : Int) = 1) = false →
  ((decide (((List.length l0 : Int) : Int) = (List.length l0 : Int)) = true) ∧ ((decide (((List.length l0 : Int) : Int) = (List.length l0 : Int)) = true) →
  post [0, v2, v3] [l0]))))
theorem q31 (T : Tab) (I : Nat → Env → Env → Prop) (M : Nat → Env → Env → Nat) (pre : Nat → List Int → List (List Int) → Prop) (post : List Int → List (List Int) → Prop) (v0 : Int) : t31.plain T (presG pre I M) post ⟨[v0], []⟩ = p31 T I M pre post v0 := by kernel_rfl
theorem k31 (T : Tab) (I : Nat → Env → Env → Prop) (M : Nat → Env → Env → Nat) (pre : Nat → List Int → List (List Int) → Prop) (hs : SubSig T c31.sigs) (ht : TotG pre c31.sigs) (hC : CtAll Try.prog T.fns (presQ pre) c31.sigs) (hk : CpAll Try.prog c31.cps) (hlf : LfAll Try.prog T.fns (presQ pre) c31.lfs) (hi : ∀ xs ls, allHas (parIvs s31.params) xs → pre 31 xs ls → allHas iv31 xs)
    (h : ∀ (v0 : Int), allHas iv31 [v0] → allL (parLvs s31.params) [] → pre 31 [v0] [] → p31 T I M pre (fun ys zs => T.fns 31 [v0] [] = (ys, zs)) v0) : CTL Try.prog T.fns (presQ pre) 31 s31 :=
  T.ctl (hlf := hlf) (F := ⟨c31, []⟩) (fuel := 250) vc31 Try.checked.mixed hs ht hC hk Try.func31 I M (fun xs ls h1 h2 h3 => ⟨hi xs ls h1 h3, h2⟩) fun xs ls hx hl hp => by
    match xs, ls, hx, hl, hp with
    | [v0], [], hx, hl, hp => rw [q31]; exact h v0 hx hl hp
/-- loop.example/g01242/impl.rootOf -/
def s53 : LSig := ⟨[.val false [.i .i64]], [.m [.i .i64] [[.i64]] [2], .n false [.i .i64]], false⟩
noncomputable def c53 : Cfg := ⟨Try.prog, [(72, s72), (71, s71), (73, s73)], [], [], [], []⟩
def iv53 : List Iv := [⟨0, 1000000⟩]
def t53 : VC :=
 (.need [(.pre 72 (.e (.var 0) .nil))]
 (.call 72 (.e (.var 0) .nil) 7
 (.need [(.pre 71 (.e (.var 1) (.e (.var 2) (.e (.var 3) (.e (.var 4) (.e (.var 5) (.e (.var 6) (.e (.var 7) .nil))))))))]
 (.call 71 (.e (.var 1) (.e (.var 2) (.e (.var 3) (.e (.var 4) (.e (.var 5) (.e (.var 6) (.e (.var 7) .nil))))))) 8
 (.need [(.pre 73 (.e (.var 8) (.e (.var 9) (.e (.var 10) (.e (.var 11) (.e (.var 12) (.e (.var 13) (.e (.var 14) .nil))))))))]
 (.call 73 (.e (.var 8) (.e (.var 9) (.e (.var 10) (.e (.var 11) (.e (.var 12) (.e (.var 13) (.e (.var 14) .nil))))))) 2
 (.ite (.eq (.wrap .i64 (.mul (.var 16) (.var 16))) (.var 0))
  (.fin (.e (.lit 1) (.e (.var 16) (.e (.lit 0) (.l (.lit []) .nil)))))
  (.bind (.wrap .i64 (.mul (.lit 1) (.var 16)))
  (.bind (.wrap .i64 (.tdiv (.wrap .i64 (.sub (.var 0) (.wrap .i64 (.mul (.var 18) (.var 18))))) (.lit 1)))
  (.need [(.b (.not (.eq (.var 19) (.lit 0))))]
  (.bind (.wrap .i64 (.tdiv (.wrap .i64 (.add (.var 16) (.var 18))) (.var 19)))
  (.ite (.not (.eq (.var 20) (.wrap .i64 (.mul (.lit 2) (.var 16)))))
   (.loop 0 [(.var 18), (.var 19), (.var 20)] [(.one (.var 20))] [⟨(-9223372036854775808), 9223372036854775807⟩, ⟨(-9223372036854775808), 9223372036854775807⟩, ⟨(-9223372036854775808), 9223372036854775807⟩] [(⟨(-9223372036854775808), 9223372036854775807⟩, 9223372036854775807)]
    (.ite (.lt (.len (.var 0)) (.lit 3000))
     (.bind (.wrap .i64 (.sub (.wrap .i64 (.mul (.var 22) (.var 23))) (.var 21)))
     (.need [(.b (.not (.eq (.var 22) (.lit 0))))]
     (.bind (.wrap .i64 (.tdiv (.wrap .i64 (.sub (.var 0) (.wrap .i64 (.mul (.var 24) (.var 24))))) (.var 22)))
     (.need [(.b (.not (.eq (.var 25) (.lit 0))))]
     (.bind (.wrap .i64 (.tdiv (.wrap .i64 (.add (.var 16) (.var 24))) (.var 25)))
     (.need [(.b (.le (.len (.cat (.var 0) (.one (.var 26)))) (.lit 1099511627776)))]
     (.ite (.not (.eq (.var 26) (.wrap .i64 (.mul (.lit 2) (.var 16)))))
      (.need [(.b (.le (.len (.cat (.var 0) (.one (.var 26)))) (.lit 9223372036854775807)))]
      (.again 0 21 0 [⟨(-9223372036854775808), 9223372036854775807⟩, ⟨(-9223372036854775808), 9223372036854775807⟩, ⟨(-9223372036854775808), 9223372036854775807⟩] [(.var 24), (.var 25), (.var 26)] [(.cat (.var 0) (.one (.var 26)))]))
      (.need [(.b (.eq (.len (.cat (.var 0) (.one (.var 26)))) (.len (.cat (.var 0) (.one (.var 26)))))), (.b (.le (.len (.cat (.var 0) (.one (.var 26)))) (.lit 1099511627776)))]
      (.fin (.e (.lit 0) (.e (.var 16) (.e (.lit 0) (.l (.cat (.var 0) (.one (.var 26))) .nil)))))))))))))
     (.fin (.e (.lit 1) (.e (.lit 0) (.e (.lit 3) (.l (.lit []) .nil)))))))
   (.need [(.b (.eq (.len (.one (.var 20))) (.len (.one (.var 20)))))]
   (.fin (.e (.lit 0) (.e (.var 16) (.e (.lit 0) (.l (.one (.var 20)) .nil))))))))))))))))))
theorem vc53 : vcLf ⟨c53, [(7, ⟨0, [9, 10, 11], [], [31, 32, 33, 34, 35, 36, 37, 38, 39, 40, 41, 42, 43, 44, 45, 46, 47, 48, 49, 50, 51, 52, 53, 54, 8, 55, 56, 57, 58, 59, 60, 61, 3, 12, 15, 18, 20], [⟨(-9223372036854775808), 9223372036854775807⟩, ⟨(-9223372036854775808), 9223372036854775807⟩, ⟨(-9223372036854775808), 9223372036854775807⟩], [3], [3]⟩)]⟩ iv53 (parLvs s53.params) 250 Try.f53 s53 = t53 := by kernel_rfl
set_option linter.unusedVariables false in
def p53 (T : Tab) (I : Nat → Env → Env → Prop) (M : Nat → Env → Env → Nat) (pre : Nat → List Int → List (List Int) → Prop) (post : List Int → List (List Int) → Prop) (v0 : Int) : Prop :=
 ((pre 72 [v0] []) ∧ ((pre 72 [v0] []) →
 ∀ v1 v2 v3 v4 v5 v6 v7 : Int, [v1, v2, v3, v4, v5, v6, v7] = T.out 72 7 [v0] →
 ((pre 71 [v1, v2, v3, v4, v5, v6, v7] []) ∧ ((pre 71 [v1, v2, v3, v4, v5, v6, v7] []) →
 ∀ v8 v9 v10 v11 v12 v13 v14 v15 : Int, [v8, v9, v10, v11, v12, v13, v14, v15] = T.out 71 8 [v1, v2, v3, v4, v5, v6, v7] →
 ((pre 73 [v8, v9, v10, v11, v12, v13, v14] []) ∧ ((pre 73 [v8, v9, v10, v11, v12, v13, v14] []) →
 ∀ v16 v17 : Int, [v16, v17] = T.out 73 2 [v8, v9, v10, v11, v12, v13, v14] →
 ((decide (((IntKind.wrap .i64 (v16 * v16)) : Int) = v0) = true →
  post [1, v16, 0] [([] : List Int)]) ∧ (decide (((IntKind.wrap .i64 (v16 * v16)) : Int) = v0) = false →
  ∀ v18 : Int, v18 = (IntKind.wrap .i64 (1 * v16)) →
  ∀ v19 : Int, v19 = (IntKind.wrap .i64 (Int.tdiv (IntKind.wrap .i64 (v0 - (IntKind.wrap .i64 (v18 * v18)))) 1)) →
  (((!decide ((v19 : Int) = 0)) = true) ∧ (((!decide ((v19 : Int) = 0)) = true) →
  ∀ v20 : Int, v20 = (IntKind.wrap .i64 (Int.tdiv (IntKind.wrap .i64 (v16 + v18)) v19)) →
  (((!decide ((v20 : Int) = (IntKind.wrap .i64 (2 * v16)))) = true →
   ((allHas [⟨(-9223372036854775808), 9223372036854775807⟩, ⟨(-9223372036854775808), 9223372036854775807⟩, ⟨(-9223372036854775808), 9223372036854775807⟩] [v18, v19, v20] ∧ I 0 ⟨[v0, v1, v2, v3, v4, v5, v6, v7, v8, v9, v10, v11, v12, v13, v14, v15, v16, v17, v18, v19, v20], []⟩ ⟨[v18, v19, v20], [[v20]]⟩) ∧ ∀ v21 v22 v23 : Int, ∀ l0 : List Int, allHas [⟨(-9223372036854775808), 9223372036854775807⟩, ⟨(-9223372036854775808), 9223372036854775807⟩, ⟨(-9223372036854775808), 9223372036854775807⟩] [v21, v22, v23] → allL [(⟨(-9223372036854775808), 9223372036854775807⟩, 9223372036854775807)] [l0] → I 0 ⟨[v0, v1, v2, v3, v4, v5, v6, v7, v8, v9, v10, v11, v12, v13, v14, v15, v16, v17, v18, v19, v20], []⟩ ⟨[v21, v22, v23], [l0]⟩ →
    ((decide (((List.length l0 : Int) : Int) < 3000) = true →
     ∀ v24 : Int, v24 = (IntKind.wrap .i64 ((IntKind.wrap .i64 (v22 * v23)) - v21)) →
     (((!decide ((v22 : Int) = 0)) = true) ∧ (((!decide ((v22 : Int) = 0)) = true) →
     ∀ v25 : Int, v25 = (IntKind.wrap .i64 (Int.tdiv (IntKind.wrap .i64 (v0 - (IntKind.wrap .i64 (v24 * v24)))) v22)) →
     (((!decide ((v25 : Int) = 0)) = true) ∧ (((!decide ((v25 : Int) = 0)) = true) →
     ∀ v26 : Int, v26 = (IntKind.wrap .i64 (Int.tdiv (IntKind.wrap .i64 (v16 + v24)) v25)) →
     ((decide (((List.length (l0 ++ [v26]) : Int) : Int) ≤ 1099511627776) = true) ∧ ((decide (((List.length (l0 ++ [v26]) : Int) : Int) ≤ 1099511627776) = true) →
     (((!decide ((v26 : Int) = (IntKind.wrap .i64 (2 * v16)))) = true →
      ((decide (((List.length (l0 ++ [v26]) : Int) : Int) ≤ 9223372036854775807) = true) ∧ ((decide (((List.length (l0 ++ [v26]) : Int) : Int) ≤ 9223372036854775807) = true) →
      (allHas [⟨(-9223372036854775808), 9223372036854775807⟩, ⟨(-9223372036854775808), 9223372036854775807⟩, ⟨(-9223372036854775808), 9223372036854775807⟩] [v24, v25, v26] ∧ I 0 ⟨[v0, v1, v2, v3, v4, v5, v6, v7, v8, v9, v10, v11, v12, v13, v14, v15, v16, v17, v18, v19, v20], []⟩ ⟨[v24, v25, v26], [(l0 ++ [v26])]⟩ ∧ M 0 ⟨[v0, v1, v2, v3, v4, v5, v6, v7, v8, v9, v10, v11, v12, v13, v14, v15, v16, v17, v18, v19, v20], []⟩ ⟨[v24, v25, v26], [(l0 ++ [v26])]⟩ < M 0 ⟨[v0, v1, v2, v3, v4, v5, v6, v7, v8, v9, v10, v11, v12, v13, v14, v15, v16, v17, v18, v19, v20], []⟩ ⟨[v21, v22, v23], [l0]⟩)))) ∧ ((!decide ((v26 : Int) = (IntKind.wrap .i64 (2 * v16)))) = false →
      ((decide (((List.length (l0 ++ [v26]) : Int) : Int) = (List.length (l0 ++ [v26]) : Int)) = true ∧ decide (((List.length (l0 ++ [v26]) : Int) : Int) ≤ 1099511627776) = true) ∧ ((decide (((List.length (l0 ++ [v26]) : Int) : Int) = (List.length (l0 ++ [v26]) : Int)) = true ∧ decide (((List.length (l0 ++ [v26]) : Int) : Int) ≤ 1099511627776) = true) →
      post [0, v16, 0] [(l0 ++ [v26])]))))))))))) ∧ (decide (((List.length l0 : Int) : Int) < 3000) = false →
     post [1, 0, 3] [([] : List Int)])))) ∧ ((!decide ((v20 : Int) = (IntKind.wrap .i64 (2 * v16)))) = false →
   ((decide (((List.length [v20] : Int) : Int) = (List.length [v20] : Int)) = true) ∧ ((decide (((List.length [v20] : Int) : Int) = (List.length [v20] : Int)) = true) →
   post [0, v16, 0] [[v20]]))))))))))))))
theorem q53 (T : Tab) (I : Nat → Env → Env → Prop) (M : Nat → Env → Env → Nat) (pre : Nat → List Int → List (List Int) → Prop) (post : List Int → List (List Int) → Prop) (v0 : Int) : t53.plain T (presG pre I M) post ⟨[v0], []⟩ = p53 T I M pre post v0 := by kernel_rfl
theorem k53 (T : Tab) (I : Nat → Env → Env → Prop) (M : Nat → Env → Env → Nat) (pre : Nat → List Int → List (List Int) → Prop) (hs : SubSig T c53.sigs) (ht : TotG pre c53.sigs) (hC : CtAll Try.prog T.fns (presQ pre) c53.sigs) (hk : CpAll Try.prog c53.cps) (hi : ∀ xs ls, allHas (parIvs s53.params) xs → pre 53 xs ls → allHas iv53 xs)
    (h : ∀ (v0 : Int), allHas iv53 [v0] → allL (parLvs s53.params) [] → pre 53 [v0] [] → p53 T I M pre (fun ys zs => T.fns 53 [v0] [] = (ys, zs)) v0) : CTL Try.prog T.fns (presQ pre) 53 s53 :=
  T.ctl (F := ⟨c53, [(7, ⟨0, [9, 10, 11], [], [31, 32, 33, 34, 35, 36, 37, 38, 39, 40, 41, 42, 43, 44, 45, 46, 47, 48, 49, 50, 51, 52, 53, 54, 8, 55, 56, 57, 58, 59, 60, 61, 3, 12, 15, 18, 20], [⟨(-9223372036854775808), 9223372036854775807⟩, ⟨(-9223372036854775808), 9223372036854775807⟩, ⟨(-9223372036854775808), 9223372036854775807⟩], [3], [3]⟩)]⟩) (fuel := 250) vc53 Try.checked.mixed hs ht hC hk Try.func53 I M (fun xs ls h1 h2 h3 => ⟨hi xs ls h1 h3, h2⟩) fun xs ls hx hl hp => by
    match xs, ls, hx, hl, hp with
    | [v0], [], hx, hl, hp => rw [q53]; exact h v0 hx hl hp
/-- loop.example/g01242/impl.RootTerms -/
def s32 : LSig := ⟨[.val false [.i .i64]], [.n false [.i .i64], .l false [[.i64]] [2], .n false [.i .i64]], true⟩
noncomputable def c32 : Cfg := ⟨Try.prog, [], [], [(53, s53)], [], []⟩
def iv32 : List Iv := [⟨(-9223372036854775808), 9223372036854775807⟩]
def t32 : VC :=
 (.ite (.le (.lit 0) (.var 0))
  (.ite (.lt (.lit 1000000) (.var 0))
   (.fin (.e (.lit 1) (.e (.lit 0) (.e (.lit 2) (.l (.lit []) .nil)))))
   (.need [(.pre 53 (.e (.var 0) .nil))]
   (.calll 53 (.e (.var 0) .nil) [⟨0, 1⟩, ⟨(-9223372036854775808), 9223372036854775807⟩, ⟨(-9223372036854775808), 9223372036854775807⟩] [(⟨(-9223372036854775808), 9223372036854775807⟩, 1099511627776)]
   (.ite (.eq (.var 1) (.lit 1))
    (.fin (.e (.lit 1) (.e (.var 2) (.e (.var 3) (.l (.lit []) .nil)))))
    (.need [(.b (.eq (.len (.var 0)) (.len (.var 0))))]
    (.fin (.e (.lit 0) (.e (.var 2) (.e (.var 3) (.l (.var 0) .nil))))))))))
  (.fin (.e (.lit 1) (.e (.lit 0) (.e (.lit 2) (.l (.lit []) .nil))))))
theorem vc32 : vcLf ⟨c32, []⟩ iv32 (parLvs s32.params) 250 Try.f32 s32 = t32 := by kernel_rfl
set_option linter.unusedVariables false in
def p32 (T : Tab) (I : Nat → Env → Env → Prop) (M : Nat → Env → Env → Nat) (pre : Nat → List Int → List (List Int) → Prop) (post : List Int → List (List Int) → Prop) (v0 : Int) : Prop :=
 ((decide ((0 : Int) ≤ v0) = true →
  ((decide ((1000000 : Int) < v0) = true →
   post [1, 0, 2] [([] : List Int)]) ∧ (decide ((1000000 : Int) < v0) = false →
   ((pre 53 [v0] []) ∧ ((pre 53 [v0] []) →
   ∀ v1 v2 v3 : Int, ∀ l0 : List Int, allHas [⟨0, 1⟩, ⟨(-9223372036854775808), 9223372036854775807⟩, ⟨(-9223372036854775808), 9223372036854775807⟩] [v1, v2, v3] → allL [(⟨(-9223372036854775808), 9223372036854775807⟩, 1099511627776)] [l0] → ([v1, v2, v3], [l0]) = T.fns 53 [v0] [] →
   ((decide ((v1 : Int) = 1) = true →
    post [1, v2, v3] [([] : List Int)]) ∧ (decide ((v1 : Int) = 1) = false →
    ((decide (((List.length l0 : Int) : Int) = (List.length l0 : Int)) = true) ∧ ((decide (((List.length l0 : Int) : Int) = (List.length l0 : Int)) = true) →
    post [0, v2, v3] [l0]))))))))) ∧ (decide ((0 : Int) ≤ v0) = false →
  post [1, 0, 2] [([] : List Int)]))
theorem q32 (T : Tab) (I : Nat → Env → Env → Prop) (M : Nat → Env → Env → Nat) (pre : Nat → List Int → List (List Int) → Prop) (post : List Int → List (List Int) → Prop) (v0 : Int) : t32.plain T (presG pre I M) post ⟨[v0], []⟩ = p32 T I M pre post v0 := by kernel_rfl
theorem k32 (T : Tab) (I : Nat → Env → Env → Prop) (M : Nat → Env → Env → Nat) (pre : Nat → List Int → List (List Int) → Prop) (hs : SubSig T c32.sigs) (ht : TotG pre c32.sigs) (hC : CtAll Try.prog T.fns (presQ pre) c32.sigs) (hk : CpAll Try.prog c32.cps) (hlf : LfAll Try.prog T.fns (presQ pre) c32.lfs) (hi : ∀ xs ls, allHas (parIvs s32.params) xs → pre 32 xs ls → allHas iv32 xs)
    (h : ∀ (v0 : Int), allHas iv32 [v0] → allL (parLvs s32.params) [] → pre 32 [v0] [] → p32 T I M pre (fun ys zs => T.fns 32 [v0] [] = (ys, zs)) v0) : CTL Try.prog T.fns (presQ pre) 32 s32 :=
  T.ctl (hlf := hlf) (F := ⟨c32, []⟩) (fuel := 250) vc32 Try.checked.mixed hs ht hC hk Try.func32 I M (fun xs ls h1 h2 h3 => ⟨hi xs ls h1 h3, h2⟩) fun xs ls hx hl hp => by
    match xs, ls, hx, hl, hp with
    | [v0], [], hx, hl, hp => rw [q32]; exact h v0 hx hl hp
/-- loop.example/g01242/laws.markInt64S -/
def s27 : WSig := ⟨[.i64], 2, [.i .i64], [(false, [.i .i64])], false⟩
noncomputable def c27 : Cfg := ⟨Try.prog, [], [], [], [], []⟩
def iv27 : List Iv := [⟨(-9223372036854775808), 9223372036854775807⟩]
def t27 : VC :=
 (.loop 1 [(.var 0), (.lit 0)] [(.var 0)] [⟨(-9223372036854775808), 9223372036854775807⟩, ⟨(-9223372036854775808), 9223372036854775807⟩] [(⟨(-9223372036854775808), 9223372036854775807⟩, 9223372036854775807)]
  (.need [(.b (.eq (.len (.var 0)) (.len (.var 1))))]
  (.ite (.lt (.var 2) (.len (.var 1)))
   (.need [(.b (.eq (.len (.var 0)) (.len (.var 1))))]
   (.need [(.b (.le (.lit 0) (.var 2))), (.b (.lt (.var 2) (.len (.var 1))))]
   (.need [(.b (.lt (.add (.lit 0) (.var 2)) (.len (.var 1))))]
   (.bind (.wrap .i64 (.add (.var 1) (.lit 1)))
   (.bind (.wrap .i64 (.add (.var 2) (.lit 1)))
   (.again 1 1 1 [⟨(-9223372036854775808), 9223372036854775807⟩, ⟨(-9223372036854775808), 9223372036854775807⟩] [(.var 3), (.var 4)] [(.set (.var 1) (.add (.lit 0) (.var 2)) (.var 1))]))))))
   (.need [(.b (.eq (.len (.var 1)) (.len (.var 0))))]
   (.fin (.e (.var 1) (.l (.var 1) .nil)))))))
def u27 : VC :=
 (.fin (.e (.var 0) (.l (.lit []) .nil)))
theorem vc27 : vcWf ⟨c27, [(2, ⟨1, [1, 5], [], [6, 7, 8, 9, 12, 13, 14, 15, 16, 17, 10, 11], [⟨(-9223372036854775808), 9223372036854775807⟩, ⟨(-9223372036854775808), 9223372036854775807⟩], [0], []⟩)]⟩ iv27 250 Try.f27 s27 true = t27 := by kernel_rfl
theorem vd27 : vcWf ⟨c27, [(2, ⟨1, [1, 5], [], [6, 7, 8, 9, 12, 13, 14, 15, 16, 17, 10, 11], [⟨(-9223372036854775808), 9223372036854775807⟩, ⟨(-9223372036854775808), 9223372036854775807⟩], [0], []⟩)]⟩ iv27 250 Try.f27 s27 false = u27 := by kernel_rfl
set_option linter.unusedVariables false in
def p27 (T : Tab) (I : Nat → Env → Env → Prop) (M : Nat → Env → Env → Nat) (pre : Nat → List Int → List (List Int) → Prop) (post : List Int → List (List Int) → Prop) (v0 : Int) (l0 : List Int) : Prop :=
 ((allHas [⟨(-9223372036854775808), 9223372036854775807⟩, ⟨(-9223372036854775808), 9223372036854775807⟩] [v0, 0] ∧ I 1 ⟨[v0], [l0]⟩ ⟨[v0, 0], [l0]⟩) ∧ ∀ v1 v2 : Int, ∀ l1 : List Int, allHas [⟨(-9223372036854775808), 9223372036854775807⟩, ⟨(-9223372036854775808), 9223372036854775807⟩] [v1, v2] → allL [(⟨(-9223372036854775808), 9223372036854775807⟩, 9223372036854775807)] [l1] → I 1 ⟨[v0], [l0]⟩ ⟨[v1, v2], [l1]⟩ →
  ((decide (((List.length l0 : Int) : Int) = (List.length l1 : Int)) = true) ∧ ((decide (((List.length l0 : Int) : Int) = (List.length l1 : Int)) = true) →
  ((decide ((v2 : Int) < (List.length l1 : Int)) = true →
   ((decide (((List.length l0 : Int) : Int) = (List.length l1 : Int)) = true) ∧ ((decide (((List.length l0 : Int) : Int) = (List.length l1 : Int)) = true) →
   ((decide ((0 : Int) ≤ v2) = true ∧ decide ((v2 : Int) < (List.length l1 : Int)) = true) ∧ ((decide ((0 : Int) ≤ v2) = true ∧ decide ((v2 : Int) < (List.length l1 : Int)) = true) →
   ((decide (((0 + v2) : Int) < (List.length l1 : Int)) = true) ∧ ((decide (((0 + v2) : Int) < (List.length l1 : Int)) = true) →
   ∀ v3 : Int, v3 = (IntKind.wrap .i64 (v1 + 1)) →
   ∀ v4 : Int, v4 = (IntKind.wrap .i64 (v2 + 1)) →
   (allHas [⟨(-9223372036854775808), 9223372036854775807⟩, ⟨(-9223372036854775808), 9223372036854775807⟩] [v3, v4] ∧ I 1 ⟨[v0], [l0]⟩ ⟨[v3, v4], [(List.set l1 (Int.toNat (0 + v2)) v1)]⟩ ∧ M 1 ⟨[v0], [l0]⟩ ⟨[v3, v4], [(List.set l1 (Int.toNat (0 + v2)) v1)]⟩ < M 1 ⟨[v0], [l0]⟩ ⟨[v1, v2], [l1]⟩)))))))) ∧ (decide ((v2 : Int) < (List.length l1 : Int)) = false →
   ((decide (((List.length l1 : Int) : Int) = (List.length l0 : Int)) = true) ∧ ((decide (((List.length l1 : Int) : Int) = (List.length l0 : Int)) = true) →
   post [v1] [l1])))))))
set_option linter.unusedVariables false in
def r27 (T : Tab) (I : Nat → Env → Env → Prop) (M : Nat → Env → Env → Nat) (pre : Nat → List Int → List (List Int) → Prop) (post : List Int → List (List Int) → Prop) (v0 : Int) : Prop :=
 post [v0] [([] : List Int)]
theorem q27 (T : Tab) (I : Nat → Env → Env → Prop) (M : Nat → Env → Env → Nat) (pre : Nat → List Int → List (List Int) → Prop) (post : List Int → List (List Int) → Prop) (v0 : Int) (l0 : List Int) : t27.plain T (presG pre I M) post ⟨[v0], [l0]⟩ = p27 T I M pre post v0 l0 := by kernel_rfl
theorem qn27 (T : Tab) (I : Nat → Env → Env → Prop) (M : Nat → Env → Env → Nat) (pre : Nat → List Int → List (List Int) → Prop) (post : List Int → List (List Int) → Prop) (v0 : Int) : u27.plain T (presG pre I M) post ⟨[v0], []⟩ = r27 T I M pre post v0 := by kernel_rfl
theorem k27 (T : Tab) (I : Nat → Env → Env → Prop) (M : Nat → Env → Env → Nat) (pre : Nat → List Int → List (List Int) → Prop) (hs : SubSig T c27.sigs) (ht : TotG pre c27.sigs) (hC : CtAll Try.prog T.fns (presQ pre) c27.sigs) (hk : CpAll Try.prog c27.cps) (hi : ∀ xs ls, allHas (parIvs s27.params) xs → pre 27 xs ls → allHas iv27 xs)
    (ho : ∀ (v0 : Int) (l0 : List Int), allHas iv27 [v0] → allL [s27.lv] [l0] → pre 27 [v0] [l0] → p27 T I M pre (fun ys zs => T.fns 27 [v0] [l0] = (ys, zs)) v0 l0)
    (hn : ∀ (v0 : Int), allHas iv27 [v0] → pre 27 [v0] [[]] → r27 T I M pre (fun ys zs => T.fns 27 [v0] [[]] = (ys, zs)) v0) : CTW Try.prog T.fns (presQ pre) 27 s27 :=
  T.ctw (F := ⟨c27, [(2, ⟨1, [1, 5], [], [6, 7, 8, 9, 12, 13, 14, 15, 16, 17, 10, 11], [⟨(-9223372036854775808), 9223372036854775807⟩, ⟨(-9223372036854775808), 9223372036854775807⟩], [0], []⟩)]⟩) (fuel := 250) vc27 vd27 Try.checked.mixed hs ht hC hk Try.func27 I M hi (fun xs l hx hl hp => by
    match xs, hx, hp with
    | [v0], hx, hp => rw [q27]; exact ho v0 l hx hl hp) fun xs hx hp => by
    match xs, hx, hp with
    | [v0], hx, hp => rw [qn27]; exact hn v0 hx hp
/-- loop.example/g01242/laws.heldInt64S -/
def s28 : Sig := ⟨[.lst [.i64], .val false [.i .i64]], [(false, [.i .i64])], false⟩
noncomputable def c28 : Cfg := ⟨Try.prog, [], [], [], [], []⟩
def iv28 : List Iv := [⟨(-9223372036854775808), 9223372036854775807⟩]
def t28 : VC :=
 (.loop 1 [(.var 0), (.lit 0)] [] [⟨(-9223372036854775808), 9223372036854775807⟩, ⟨(-9223372036854775808), 9223372036854775807⟩] []
  (.ite (.lt (.var 2) (.len (.var 0)))
   (.need [(.b (.le (.lit 0) (.var 2))), (.b (.lt (.var 2) (.len (.var 0))))]
   (.need [(.b (.lt (.add (.lit 0) (.var 2)) (.len (.var 0))))]
   (.bind (.at (.var 0) (.add (.lit 0) (.var 2)))
   (.ite (.not (.eq (.var 3) (.var 1)))
    (.fin (.e (.lit (-1)) .nil))
    (.bind (.wrap .i64 (.add (.var 1) (.lit 1)))
    (.bind (.wrap .i64 (.add (.var 2) (.lit 1)))
    (.again 1 1 1 [⟨(-9223372036854775808), 9223372036854775807⟩, ⟨(-9223372036854775808), 9223372036854775807⟩] [(.var 4), (.var 5)] [])))))))
   (.fin (.e (.var 1) .nil))))
theorem vc28 : vcOfI ⟨c28, [(2, ⟨1, [1, 5], [], [6, 7, 8, 9, 12, 13, 14, 15, 16, 17, 4, 18, 19, 10, 11], [⟨(-9223372036854775808), 9223372036854775807⟩, ⟨(-9223372036854775808), 9223372036854775807⟩], [], []⟩)]⟩ iv28 (parLvs s28.params) 250 Try.f28 s28 = t28 := by kernel_rfl
set_option linter.unusedVariables false in
def p28 (T : Tab) (I : Nat → Env → Env → Prop) (M : Nat → Env → Env → Nat) (pre : Nat → List Int → List (List Int) → Prop) (post : List Int → List (List Int) → Prop) (v0 : Int) (l0 : List Int) : Prop :=
 ((allHas [⟨(-9223372036854775808), 9223372036854775807⟩, ⟨(-9223372036854775808), 9223372036854775807⟩] [v0, 0] ∧ I 1 ⟨[v0], [l0]⟩ ⟨[v0, 0], []⟩) ∧ ∀ v1 v2 : Int, allHas [⟨(-9223372036854775808), 9223372036854775807⟩, ⟨(-9223372036854775808), 9223372036854775807⟩] [v1, v2] → I 1 ⟨[v0], [l0]⟩ ⟨[v1, v2], []⟩ →
  ((decide ((v2 : Int) < (List.length l0 : Int)) = true →
   ((decide ((0 : Int) ≤ v2) = true ∧ decide ((v2 : Int) < (List.length l0 : Int)) = true) ∧ ((decide ((0 : Int) ≤ v2) = true ∧ decide ((v2 : Int) < (List.length l0 : Int)) = true) →
   ((decide (((0 + v2) : Int) < (List.length l0 : Int)) = true) ∧ ((decide (((0 + v2) : Int) < (List.length l0 : Int)) = true) →
   ∀ v3 : Int, v3 = (List.getD l0 (Int.toNat (0 + v2)) 0) →
   (((!decide ((v3 : Int) = v1)) = true →
    post [(-1)] []) ∧ ((!decide ((v3 : Int) = v1)) = false →
    ∀ v4 : Int, v4 = (IntKind.wrap .i64 (v1 + 1)) →
    ∀ v5 : Int, v5 = (IntKind.wrap .i64 (v2 + 1)) →
    (allHas [⟨(-9223372036854775808), 9223372036854775807⟩, ⟨(-9223372036854775808), 9223372036854775807⟩] [v4, v5] ∧ I 1 ⟨[v0], [l0]⟩ ⟨[v4, v5], []⟩ ∧ M 1 ⟨[v0], [l0]⟩ ⟨[v4, v5], []⟩ < M 1 ⟨[v0], [l0]⟩ ⟨[v1, v2], []⟩)))))))) ∧ (decide ((v2 : Int) < (List.length l0 : Int)) = false →
   post [v1] [])))
theorem q28 (T : Tab) (I : Nat → Env → Env → Prop) (M : Nat → Env → Env → Nat) (pre : Nat → List Int → List (List Int) → Prop) (post : List Int → List (List Int) → Prop) (v0 : Int) (l0 : List Int) : t28.plain T (presG pre I M) post ⟨[v0], [l0]⟩ = p28 T I M pre post v0 l0 := by kernel_rfl
theorem k28 (T : Tab) (I : Nat → Env → Env → Prop) (M : Nat → Env → Env → Nat) (pre : Nat → List Int → List (List Int) → Prop) (hs : SubSig T c28.sigs) (ht : TotG pre c28.sigs) (hg : T.sig 28 = some s28) (hC : CtAll Try.prog T.fns (presQ pre) c28.sigs) (hk : CpAll Try.prog c28.cps) (hi : ∀ xs ls, allHas (parIvs s28.params) xs → pre 28 xs ls → allHas iv28 xs)
    (h : ∀ (v0 : Int) (l0 : List Int), allHas iv28 [v0] → allL (parLvs s28.params) [l0] → pre 28 [v0] [l0] → p28 T I M pre (fun ys _ => ys = T.app 28 [v0] [l0]) v0 l0) : CT Try.prog T.fns (presQ pre) 28 s28 :=
  T.ctg (F := ⟨c28, [(2, ⟨1, [1, 5], [], [6, 7, 8, 9, 12, 13, 14, 15, 16, 17, 4, 18, 19, 10, 11], [⟨(-9223372036854775808), 9223372036854775807⟩, ⟨(-9223372036854775808), 9223372036854775807⟩], [], []⟩)]⟩) (fuel := 250) vc28 Try.checked.mixed hs ht hg hC hk Try.func28 I M (fun xs ls h1 h2 h3 => ⟨hi xs ls h1 h3, h2⟩) fun xs ls hx hl hp => by
    match xs, ls, hx, hl, hp with
    | [v0], [l0], hx, hl, hp => rw [q28]; exact h v0 l0 hx hl hp
/-- loop.example/g01242/laws.eqInt64S -/
def s16 : Sig := ⟨[.lst [.i64], .lst [.i64]], [(false, [.b])], true⟩
noncomputable def c16 : Cfg := ⟨Try.prog, [], [], [], [], []⟩
def iv16 : List Iv := []
def t16 : VC :=
 (.ite (.not (.eq (.len (.var 0)) (.len (.var 1))))
  (.fin (.e (.lit 0) .nil))
  (.loop 1 [(.lit 0)] [] [⟨(-9223372036854775808), 9223372036854775807⟩] []
   (.ite (.lt (.var 0) (.len (.var 0)))
    (.need [(.b (.le (.lit 0) (.var 0))), (.b (.lt (.var 0) (.len (.var 0)))), (.b (.lt (.add (.lit 0) (.var 0)) (.len (.var 0)))), (.b (.le (.lit 0) (.var 0))), (.b (.lt (.var 0) (.len (.var 1)))), (.b (.lt (.add (.lit 0) (.var 0)) (.len (.var 1))))]
    (.bind (.at (.var 0) (.add (.lit 0) (.var 0)))
    (.bind (.at (.var 1) (.add (.lit 0) (.var 0)))
    (.ite (.not (.eq (.at (.var 0) (.add (.lit 0) (.var 0))) (.at (.var 1) (.add (.lit 0) (.var 0)))))
     (.fin (.e (.lit 0) .nil))
     (.bind (.wrap .i64 (.add (.var 0) (.lit 1)))
     (.again 1 0 2 [⟨(-9223372036854775808), 9223372036854775807⟩] [(.var 3)] []))))))
    (.fin (.e (.lit 1) .nil)))))
theorem vc16 : vcOfI ⟨c16, [(4, ⟨1, [5], [], [11, 12, 13, 14, 17, 18, 19, 20, 21, 22, 23, 24, 25, 4, 15, 16], [⟨(-9223372036854775808), 9223372036854775807⟩], [], []⟩)]⟩ iv16 (parLvs s16.params) 250 Try.f16 s16 = t16 := by kernel_rfl
set_option linter.unusedVariables false in
def p16 (T : Tab) (I : Nat → Env → Env → Prop) (M : Nat → Env → Env → Nat) (pre : Nat → List Int → List (List Int) → Prop) (post : List Int → List (List Int) → Prop) (l0 l1 : List Int) : Prop :=
 (((!decide (((List.length l0 : Int) : Int) = (List.length l1 : Int))) = true →
  post [0] []) ∧ ((!decide (((List.length l0 : Int) : Int) = (List.length l1 : Int))) = false →
  ((allHas [⟨(-9223372036854775808), 9223372036854775807⟩] [0] ∧ I 1 ⟨[], [l0, l1]⟩ ⟨[0], []⟩) ∧ ∀ v0 : Int, allHas [⟨(-9223372036854775808), 9223372036854775807⟩] [v0] → I 1 ⟨[], [l0, l1]⟩ ⟨[v0], []⟩ →
   ((decide ((v0 : Int) < (List.length l0 : Int)) = true →
    ((decide ((0 : Int) ≤ v0) = true ∧ decide ((v0 : Int) < (List.length l0 : Int)) = true ∧ decide (((0 + v0) : Int) < (List.length l0 : Int)) = true ∧ decide ((0 : Int) ≤ v0) = true ∧ decide ((v0 : Int) < (List.length l1 : Int)) = true ∧ decide (((0 + v0) : Int) < (List.length l1 : Int)) = true) ∧ ((decide ((0 : Int) ≤ v0) = true ∧ decide ((v0 : Int) < (List.length l0 : Int)) = true ∧ decide (((0 + v0) : Int) < (List.length l0 : Int)) = true ∧ decide ((0 : Int) ≤ v0) = true ∧ decide ((v0 : Int) < (List.length l1 : Int)) = true ∧ decide (((0 + v0) : Int) < (List.length l1 : Int)) = true) →
    ∀ v1 : Int, v1 = (List.getD l0 (Int.toNat (0 + v0)) 0) →
    ∀ v2 : Int, v2 = (List.getD l1 (Int.toNat (0 + v0)) 0) →
    (((!decide (((List.getD l0 (Int.toNat (0 + v0)) 0) : Int) = (List.getD l1 (Int.toNat (0 + v0)) 0))) = true →
     post [0] []) ∧ ((!decide (((List.getD l0 (Int.toNat (0 + v0)) 0) : Int) = (List.getD l1 (Int.toNat (0 + v0)) 0))) = false →
     ∀ v3 : Int, v3 = (IntKind.wrap .i64 (v0 + 1)) →
     (allHas [⟨(-9223372036854775808), 9223372036854775807⟩] [v3] ∧ I 1 ⟨[], [l0, l1]⟩ ⟨[v3], []⟩ ∧ M 1 ⟨[], [l0, l1]⟩ ⟨[v3], []⟩ < M 1 ⟨[], [l0, l1]⟩ ⟨[v0], []⟩)))))) ∧ (decide ((v0 : Int) < (List.length l0 : Int)) = false →
    post [1] [])))))
theorem q16 (T : Tab) (I : Nat → Env → Env → Prop) (M : Nat → Env → Env → Nat) (pre : Nat → List Int → List (List Int) → Prop) (post : List Int → List (List Int) → Prop) (l0 l1 : List Int) : t16.plain T (presG pre I M) post ⟨[], [l0, l1]⟩ = p16 T I M pre post l0 l1 := by kernel_rfl
theorem k16 (T : Tab) (I : Nat → Env → Env → Prop) (M : Nat → Env → Env → Nat) (pre : Nat → List Int → List (List Int) → Prop) (hs : SubSig T c16.sigs) (ht : TotG pre c16.sigs) (hg : T.sig 16 = some s16) (hC : CtAll Try.prog T.fns (presQ pre) c16.sigs) (hk : CpAll Try.prog c16.cps) (hi : ∀ xs ls, allHas (parIvs s16.params) xs → pre 16 xs ls → allHas iv16 xs)
    (h : ∀ (l0 l1 : List Int), allHas iv16 [] → allL (parLvs s16.params) [l0, l1] → pre 16 [] [l0, l1] → p16 T I M pre (fun ys _ => ys = T.app 16 [] [l0, l1]) l0 l1) : CT Try.prog T.fns (presQ pre) 16 s16 :=
  T.ctg (F := ⟨c16, [(4, ⟨1, [5], [], [11, 12, 13, 14, 17, 18, 19, 20, 21, 22, 23, 24, 25, 4, 15, 16], [⟨(-9223372036854775808), 9223372036854775807⟩], [], []⟩)]⟩) (fuel := 250) vc16 Try.checked.mixed hs ht hg hC hk Try.func16 I M (fun xs ls h1 h2 h3 => ⟨hi xs ls h1 h3, h2⟩) fun xs ls hx hl hp => by
    match xs, ls, hx, hl, hp with
    | [], [l0, l1], hx, hl, hp => rw [q16]; exact h l0 l1 hx hl hp
/-- loop.example/g01242/laws.FnExactRootTerms -/
def s9 : Sig := ⟨[.val false [.i .i64]], [(false, [.b])], true⟩
noncomputable def c9 : Cfg := ⟨Try.prog, [(16, s16), (28, s28)], [], [(31, s31), (32, s32)], [(27, s27)], []⟩
def iv9 : List Iv := [⟨(-9223372036854775808), 9223372036854775807⟩]
def t9 : VC :=
 (.calll 31 (.e (.var 0) .nil) [⟨0, 1⟩, ⟨(-9223372036854775808), 9223372036854775807⟩, ⟨(-9223372036854775808), 9223372036854775807⟩] [(⟨(-9223372036854775808), 9223372036854775807⟩, 1099511627776)]
 (.ite (.eq (.var 1) (.lit 1))
  (.calll 32 (.e (.var 0) .nil) [⟨0, 1⟩, ⟨(-9223372036854775808), 9223372036854775807⟩, ⟨(-9223372036854775808), 9223372036854775807⟩] [(⟨(-9223372036854775808), 9223372036854775807⟩, 1099511627776)]
  (.ite (.eq (.var 4) (.lit 1))
   (.ite (.eq (.var 5) (.var 2))
    (.call 16 (.l (.lit []) (.l (.lit []) .nil)) 1
    (.ite (.eq (.var 7) (.lit 1))
     (.ite (.not (.eq (.var 6) (.var 3)))
      (.fin (.e (.lit 0) .nil))
      (.need [(.pre 27 (.l (.lit []) (.e (.lit 1) .nil)))]
      (.calll 27 (.l (.lit []) (.e (.lit 1) .nil)) [⟨(-9223372036854775808), 9223372036854775807⟩] [(⟨(-9223372036854775808), 9223372036854775807⟩, 9223372036854775807)]
      (.need [(.pre 28 (.l (.lit []) (.e (.lit 1) .nil)))]
      (.call 28 (.l (.lit []) (.e (.lit 1) .nil)) 1
      (.ite (.lt (.var 9) (.lit 0))
       (.fin (.e (.lit 0) .nil))
       (.ite (.not (.eq (.var 9) (.var 8)))
        (.fin (.e (.lit 0) .nil))
        (.calll 32 (.e (.var 0) .nil) [⟨0, 1⟩, ⟨(-9223372036854775808), 9223372036854775807⟩, ⟨(-9223372036854775808), 9223372036854775807⟩] [(⟨(-9223372036854775808), 9223372036854775807⟩, 1099511627776)]
        (.ite (.eq (.var 10) (.lit 1))
         (.ite (.eq (.var 11) (.var 2))
          (.call 16 (.l (.lit []) (.l (.lit []) .nil)) 1
          (.ite (.eq (.var 13) (.lit 1))
           (.ite (.not (.eq (.var 12) (.var 3)))
            (.fin (.e (.lit 0) .nil))
            (.need [(.pre 28 (.l (.lit []) (.e (.lit 1) .nil)))]
            (.call 28 (.l (.lit []) (.e (.lit 1) .nil)) 1
            (.ite (.lt (.var 14) (.lit 0))
             (.fin (.e (.lit 0) .nil))
             (.ite (.not (.eq (.var 14) (.var 8)))
              (.fin (.e (.lit 0) .nil))
              (.fin (.e (.lit 1) .nil)))))))
           (.fin (.e (.lit 0) .nil))))
          (.fin (.e (.lit 0) .nil)))
         (.ite (.eq (.var 11) (.var 2))
          (.call 16 (.l (.var 3) (.l (.lit []) .nil)) 1
          (.ite (.eq (.var 13) (.lit 1))
           (.ite (.not (.eq (.var 12) (.var 3)))
            (.fin (.e (.lit 0) .nil))
            (.need [(.pre 28 (.l (.lit []) (.e (.lit 1) .nil)))]
            (.call 28 (.l (.lit []) (.e (.lit 1) .nil)) 1
            (.ite (.lt (.var 14) (.lit 0))
             (.fin (.e (.lit 0) .nil))
             (.ite (.not (.eq (.var 14) (.var 8)))
              (.fin (.e (.lit 0) .nil))
              (.fin (.e (.lit 1) .nil)))))))
           (.fin (.e (.lit 0) .nil))))
          (.fin (.e (.lit 0) .nil))))))))))))
     (.fin (.e (.lit 0) .nil))))
    (.fin (.e (.lit 0) .nil)))
   (.ite (.eq (.var 5) (.var 2))
    (.call 16 (.l (.var 1) (.l (.lit []) .nil)) 1
    (.ite (.eq (.var 7) (.lit 1))
     (.ite (.not (.eq (.var 6) (.var 3)))
      (.fin (.e (.lit 0) .nil))
      (.need [(.pre 27 (.l (.var 1) (.e (.lit 1) .nil)))]
      (.calll 27 (.l (.var 1) (.e (.lit 1) .nil)) [⟨(-9223372036854775808), 9223372036854775807⟩] [(⟨(-9223372036854775808), 9223372036854775807⟩, 9223372036854775807)]
      (.need [(.pre 28 (.l (.var 2) (.e (.lit 1) .nil)))]
      (.call 28 (.l (.var 2) (.e (.lit 1) .nil)) 1
      (.ite (.lt (.var 9) (.lit 0))
       (.fin (.e (.lit 0) .nil))
       (.ite (.not (.eq (.var 9) (.var 8)))
        (.fin (.e (.lit 0) .nil))
        (.calll 32 (.e (.var 0) .nil) [⟨0, 1⟩, ⟨(-9223372036854775808), 9223372036854775807⟩, ⟨(-9223372036854775808), 9223372036854775807⟩] [(⟨(-9223372036854775808), 9223372036854775807⟩, 1099511627776)]
        (.ite (.eq (.var 10) (.lit 1))
         (.ite (.eq (.var 11) (.var 2))
          (.call 16 (.l (.lit []) (.l (.lit []) .nil)) 1
          (.ite (.eq (.var 13) (.lit 1))
           (.ite (.not (.eq (.var 12) (.var 3)))
            (.fin (.e (.lit 0) .nil))
            (.need [(.pre 28 (.l (.var 2) (.e (.lit 1) .nil)))]
            (.call 28 (.l (.var 2) (.e (.lit 1) .nil)) 1
            (.ite (.lt (.var 14) (.lit 0))
             (.fin (.e (.lit 0) .nil))
             (.ite (.not (.eq (.var 14) (.var 8)))
              (.fin (.e (.lit 0) .nil))
              (.fin (.e (.lit 1) .nil)))))))
           (.fin (.e (.lit 0) .nil))))
          (.fin (.e (.lit 0) .nil)))
         (.ite (.eq (.var 11) (.var 2))
          (.call 16 (.l (.var 3) (.l (.lit []) .nil)) 1
          (.ite (.eq (.var 13) (.lit 1))
           (.ite (.not (.eq (.var 12) (.var 3)))
            (.fin (.e (.lit 0) .nil))
            (.need [(.pre 28 (.l (.var 2) (.e (.lit 1) .nil)))]
            (.call 28 (.l (.var 2) (.e (.lit 1) .nil)) 1
            (.ite (.lt (.var 14) (.lit 0))
             (.fin (.e (.lit 0) .nil))
             (.ite (.not (.eq (.var 14) (.var 8)))
              (.fin (.e (.lit 0) .nil))
              (.fin (.e (.lit 1) .nil)))))))
           (.fin (.e (.lit 0) .nil))))
          (.fin (.e (.lit 0) .nil))))))))))))
     (.fin (.e (.lit 0) .nil))))
    (.fin (.e (.lit 0) .nil)))))
  (.calll 32 (.e (.var 0) .nil) [⟨0, 1⟩, ⟨(-9223372036854775808), 9223372036854775807⟩, ⟨(-9223372036854775808), 9223372036854775807⟩] [(⟨(-9223372036854775808), 9223372036854775807⟩, 1099511627776)]
  (.ite (.eq (.var 4) (.lit 1))
   (.ite (.eq (.var 5) (.var 2))
    (.call 16 (.l (.lit []) (.l (.var 0) .nil)) 1
    (.ite (.eq (.var 7) (.lit 1))
     (.ite (.not (.eq (.var 6) (.var 3)))
      (.fin (.e (.lit 0) .nil))
      (.need [(.pre 27 (.l (.lit []) (.e (.lit 1) .nil)))]
      (.calll 27 (.l (.lit []) (.e (.lit 1) .nil)) [⟨(-9223372036854775808), 9223372036854775807⟩] [(⟨(-9223372036854775808), 9223372036854775807⟩, 9223372036854775807)]
      (.need [(.pre 28 (.l (.lit []) (.e (.lit 1) .nil)))]
      (.call 28 (.l (.lit []) (.e (.lit 1) .nil)) 1
      (.ite (.lt (.var 9) (.lit 0))
       (.fin (.e (.lit 0) .nil))
       (.ite (.not (.eq (.var 9) (.var 8)))
        (.fin (.e (.lit 0) .nil))
        (.calll 32 (.e (.var 0) .nil) [⟨0, 1⟩, ⟨(-9223372036854775808), 9223372036854775807⟩, ⟨(-9223372036854775808), 9223372036854775807⟩] [(⟨(-9223372036854775808), 9223372036854775807⟩, 1099511627776)]
        (.ite (.eq (.var 10) (.lit 1))
         (.ite (.eq (.var 11) (.var 2))
          (.call 16 (.l (.lit []) (.l (.var 0) .nil)) 1
          (.ite (.eq (.var 13) (.lit 1))
           (.ite (.not (.eq (.var 12) (.var 3)))
            (.fin (.e (.lit 0) .nil))
            (.need [(.pre 28 (.l (.lit []) (.e (.lit 1) .nil)))]
            (.call 28 (.l (.lit []) (.e (.lit 1) .nil)) 1
            (.ite (.lt (.var 14) (.lit 0))
             (.fin (.e (.lit 0) .nil))
             (.ite (.not (.eq (.var 14) (.var 8)))
              (.fin (.e (.lit 0) .nil))
              (.fin (.e (.lit 1) .nil)))))))
           (.fin (.e (.lit 0) .nil))))
          (.fin (.e (.lit 0) .nil)))
         (.ite (.eq (.var 11) (.var 2))
          (.call 16 (.l (.var 3) (.l (.var 0) .nil)) 1
          (.ite (.eq (.var 13) (.lit 1))
           (.ite (.not (.eq (.var 12) (.var 3)))
            (.fin (.e (.lit 0) .nil))
            (.need [(.pre 28 (.l (.lit []) (.e (.lit 1) .nil)))]
            (.call 28 (.l (.lit []) (.e (.lit 1) .nil)) 1
            (.ite (.lt (.var 14) (.lit 0))
             (.fin (.e (.lit 0) .nil))
             (.ite (.not (.eq (.var 14) (.var 8)))
              (.fin (.e (.lit 0) .nil))
              (.fin (.e (.lit 1) .nil)))))))
           (.fin (.e (.lit 0) .nil))))
          (.fin (.e (.lit 0) .nil))))))))))))
     (.fin (.e (.lit 0) .nil))))
    (.fin (.e (.lit 0) .nil)))
   (.ite (.eq (.var 5) (.var 2))
    (.call 16 (.l (.var 1) (.l (.var 0) .nil)) 1
    (.ite (.eq (.var 7) (.lit 1))
     (.ite (.not (.eq (.var 6) (.var 3)))
      (.fin (.e (.lit 0) .nil))
      (.need [(.pre 27 (.l (.var 1) (.e (.lit 1) .nil)))]
      (.calll 27 (.l (.var 1) (.e (.lit 1) .nil)) [⟨(-9223372036854775808), 9223372036854775807⟩] [(⟨(-9223372036854775808), 9223372036854775807⟩, 9223372036854775807)]
      (.need [(.pre 28 (.l (.var 2) (.e (.lit 1) .nil)))]
      (.call 28 (.l (.var 2) (.e (.lit 1) .nil)) 1
      (.ite (.lt (.var 9) (.lit 0))
       (.fin (.e (.lit 0) .nil))
       (.ite (.not (.eq (.var 9) (.var 8)))
        (.fin (.e (.lit 0) .nil))
        (.calll 32 (.e (.var 0) .nil) [⟨0, 1⟩, ⟨(-9223372036854775808), 9223372036854775807⟩, ⟨(-9223372036854775808), 9223372036854775807⟩] [(⟨(-9223372036854775808), 9223372036854775807⟩, 1099511627776)]
        (.ite (.eq (.var 10) (.lit 1))
         (.ite (.eq (.var 11) (.var 2))
          (.call 16 (.l (.lit []) (.l (.var 0) .nil)) 1
          (.ite (.eq (.var 13) (.lit 1))
           (.ite (.not (.eq (.var 12) (.var 3)))
            (.fin (.e (.lit 0) .nil))
            (.need [(.pre 28 (.l (.var 2) (.e (.lit 1) .nil)))]
            (.call 28 (.l (.var 2) (.e (.lit 1) .nil)) 1
            (.ite (.lt (.var 14) (.lit 0))
             (.fin (.e (.lit 0) .nil))
             (.ite (.not (.eq (.var 14) (.var 8)))
              (.fin (.e (.lit 0) .nil))
              (.fin (.e (.lit 1) .nil)))))))
           (.fin (.e (.lit 0) .nil))))
          (.fin (.e (.lit 0) .nil)))
         (.ite (.eq (.var 11) (.var 2))
          (.call 16 (.l (.var 3) (.l (.var 0) .nil)) 1
          (.ite (.eq (.var 13) (.lit 1))
           (.ite (.not (.eq (.var 12) (.var 3)))
            (.fin (.e (.lit 0) .nil))
            (.need [(.pre 28 (.l (.var 2) (.e (.lit 1) .nil)))]
            (.call 28 (.l (.var 2) (.e (.lit 1) .nil)) 1
            (.ite (.lt (.var 14) (.lit 0))
             (.fin (.e (.lit 0) .nil))
             (.ite (.not (.eq (.var 14) (.var 8)))
              (.fin (.e (.lit 0) .nil))
              (.fin (.e (.lit 1) .nil)))))))
           (.fin (.e (.lit 0) .nil))))
          (.fin (.e (.lit 0) .nil))))))))))))
     (.fin (.e (.lit 0) .nil))))
    (.fin (.e (.lit 0) .nil)))))))
theorem vc9 : vcOfI ⟨c9, []⟩ iv9 (parLvs s9.params) 250 Try.f9 s9 = t9 := by kernel_rfl
set_option linter.unusedVariables false in
def p9 (T : Tab) (I : Nat → Env → Env → Prop) (M : Nat → Env → Env → Nat) (pre : Nat → List Int → List (List Int) → Prop) (post : List Int → List (List Int) → Prop) (v0 : Int) : Prop :=
 ∀ v1 v2 v3 : Int, ∀ l0 : List Int, allHas [⟨0, 1⟩, ⟨(-9223372036854775808), 9223372036854775807⟩, ⟨(-9223372036854775808), 9223372036854775807⟩] [v1, v2, v3] → allL [(⟨(-9223372036854775808), 9223372036854775807⟩, 1099511627776)] [l0] → ([v1, v2, v3], [l0]) = T.fns 31 [v0] [] →
 ((decide ((v1 : Int) = 1) = true →
  ∀ v4 v5 v6 : Int, ∀ l1 : List Int, allHas [⟨0, 1⟩, ⟨(-9223372036854775808), 9223372036854775807⟩, ⟨(-9223372036854775808), 9223372036854775807⟩] [v4, v5, v6] → allL [(⟨(-9223372036854775808), 9223372036854775807⟩, 1099511627776)] [l1] → ([v4, v5, v6], [l1]) = T.fns 32 [v0] [] →
  ((decide ((v4 : Int) = 1) = true →
   ((decide ((v5 : Int) = v2) = true →
    ∀ v7 : Int, [v7] = T.outL 16 1 [] [([] : List Int), ([] : List Int)] →
    ((decide ((v7 : Int) = 1) = true →
     (((!decide ((v6 : Int) = v3)) = true →
      post [0] []) ∧ ((!decide ((v6 : Int) = v3)) = false →
      ((pre 27 [1] [([] : List Int)]) ∧ ((pre 27 [1] [([] : List Int)]) →
      ∀ v8 : Int, ∀ l2 : List Int, allHas [⟨(-9223372036854775808), 9223372036854775807⟩] [v8] → allL [(⟨(-9223372036854775808), 9223372036854775807⟩, 9223372036854775807)] [l2] → ([v8], [l2]) = T.fns 27 [1] [([] : List Int)] →
      ((pre 28 [1] [([] : List Int)]) ∧ ((pre 28 [1] [([] : List Int)]) →
      ∀ v9 : Int, [v9] = T.outL 28 1 [1] [([] : List Int)] →
      ((decide ((v9 : Int) < 0) = true →
       post [0] []) ∧ (decide ((v9 : Int) < 0) = false →
       (((!decide ((v9 : Int) = v8)) = true →
        post [0] []) ∧ ((!decide ((v9 : Int) = v8)) = false →
        ∀ v10 v11 v12 : Int, ∀ l3 : List Int, allHas [⟨0, 1⟩, ⟨(-9223372036854775808), 9223372036854775807⟩, ⟨(-9223372036854775808), 9223372036854775807⟩] [v10, v11, v12] → allL [(⟨(-9223372036854775808), 9223372036854775807⟩, 1099511627776)] [l3] → ([v10, v11, v12], [l3]) = T.fns 32 [v0] [] →
        ((decide ((v10 : Int) = 1) = true →
         ((decide ((v11 : Int) = v2) = true →
          ∀ v13 : Int, [v13] = T.outL 16 1 [] [([] : List Int), ([] : List Int)] →
          ((decide ((v13 : Int) = 1) = true →
           (((!decide ((v12 : Int) = v3)) = true →
            post [0] []) ∧ ((!decide ((v12 : Int) = v3)) = false →
            ((pre 28 [1] [([] : List Int)]) ∧ ((pre 28 [1] [([] : List Int)]) →
            ∀ v14 : Int, [v14] = T.outL 28 1 [1] [([] : List Int)] →
            ((decide ((v14 : Int) < 0) = true →
             post [0] []) ∧ (decide ((v14 : Int) < 0) = false →
             (((!decide ((v14 : Int) = v8)) = true →
              post [0] []) ∧ ((!decide ((v14 : Int) = v8)) = false →
              post [1] []))))))))) ∧ (decide ((v13 : Int) = 1) = false →
           post [0] []))) ∧ (decide ((v11 : Int) = v2) = false →
          post [0] []))) ∧ (decide ((v10 : Int) = 1) = false →
         ((decide ((v11 : Int) = v2) = true →
          ∀ v13 : Int, [v13] = T.outL 16 1 [] [l3, ([] : List Int)] →
          ((decide ((v13 : Int) = 1) = true →
           (((!decide ((v12 : Int) = v3)) = true →
            post [0] []) ∧ ((!decide ((v12 : Int) = v3)) = false →
            ((pre 28 [1] [([] : List Int)]) ∧ ((pre 28 [1] [([] : List Int)]) →
            ∀ v14 : Int, [v14] = T.outL 28 1 [1] [([] : List Int)] →
            ((decide ((v14 : Int) < 0) = true →
             post [0] []) ∧ (decide ((v14 : Int) < 0) = false →
             (((!decide ((v14 : Int) = v8)) = true →
              post [0] []) ∧ ((!decide ((v14 : Int) = v8)) = false →
              post [1] []))))))))) ∧ (decide ((v13 : Int) = 1) = false →
           post [0] []))) ∧ (decide ((v11 : Int) = v2) = false →
          post [0] []))))))))))))))) ∧ (decide ((v7 : Int) = 1) = false →
     post [0] []))) ∧ (decide ((v5 : Int) = v2) = false →
    post [0] []))) ∧ (decide ((v4 : Int) = 1) = false →
   ((decide ((v5 : Int) = v2) = true →
    ∀ v7 : Int, [v7] = T.outL 16 1 [] [l1, ([] : List Int)] →
    ((decide ((v7 : Int) = 1) = true →
     (((!decide ((v6 : Int) = v3)) = true →
      post [0] []) ∧ ((!decide ((v6 : Int) = v3)) = false →
      ((pre 27 [1] [l1]) ∧ ((pre 27 [1] [l1]) →
      ∀ v8 : Int, ∀ l2 : List Int, allHas [⟨(-9223372036854775808), 9223372036854775807⟩] [v8] → allL [(⟨(-9223372036854775808), 9223372036854775807⟩, 9223372036854775807)] [l2] → ([v8], [l2]) = T.fns 27 [1] [l1] →
      ((pre 28 [1] [l2]) ∧ ((pre 28 [1] [l2]) →
      ∀ v9 : Int, [v9] = T.outL 28 1 [1] [l2] →
      ((decide ((v9 : Int) < 0) = true →
       post [0] []) ∧ (decide ((v9 : Int) < 0) = false →
       (((!decide ((v9 : Int) = v8)) = true →
        post [0] []) ∧ ((!decide ((v9 : Int) = v8)) = false →
        ∀ v10 v11 v12 : Int, ∀ l3 : List Int, allHas [⟨0, 1⟩, ⟨(-9223372036854775808), 9223372036854775807⟩, ⟨(-9223372036854775808), 9223372036854775807⟩] [v10, v11, v12] → allL [(⟨(-9223372036854775808), 9223372036854775807⟩, 1099511627776)] [l3] → ([v10, v11, v12], [l3]) = T.fns 32 [v0] [] →
        ((decide ((v10 : Int) = 1) = true →
         ((decide ((v11 : Int) = v2) = true →
          ∀ v13 : Int, [v13] = T.outL 16 1 [] [([] : List Int), ([] : List Int)] →
          ((decide ((v13 : Int) = 1) = true →
           (((!decide ((v12 : Int) = v3)) = true →
            post [0] []) ∧ ((!decide ((v12 : Int) = v3)) = false →
            ((pre 28 [1] [l2]) ∧ ((pre 28 [1] [l2]) →
            ∀ v14 : Int, [v14] = T.outL 28 1 [1] [l2] →
            ((decide ((v14 : Int) < 0) = true →
             post [0] []) ∧ (decide ((v14 : Int) < 0) = false →
             (((!decide ((v14 : Int) = v8)) = true →
              post [0] []) ∧ ((!decide ((v14 : Int) = v8)) = false →
              post [1] []))))))))) ∧ (decide ((v13 : Int) = 1) = false →
           post [0] []))) ∧ (decide ((v11 : Int) = v2) = false →
          post [0] []))) ∧ (decide ((v10 : Int) = 1) = false →
         ((decide ((v11 : Int) = v2) = true →
          ∀ v13 : Int, [v13] = T.outL 16 1 [] [l3, ([] : List Int)] →
          ((decide ((v13 : Int) = 1) = true →
           (((!decide ((v12 : Int) = v3)) = true →
            post [0] []) ∧ ((!decide ((v12 : Int) = v3)) = false →
            ((pre 28 [1] [l2]) ∧ ((pre 28 [1] [l2]) →
            ∀ v14 : Int, [v14] = T.outL 28 1 [1] [l2] →
            ((decide ((v14 : Int) < 0) = true →
             post [0] []) ∧ (decide ((v14 : Int) < 0) = false →
             (((!decide ((v14 : Int) = v8)) = true →
              post [0] []) ∧ ((!decide ((v14 : Int) = v8)) = false →
              post [1] []))))))))) ∧ (decide ((v13 : Int) = 1) = false →
           post [0] []))) ∧ (decide ((v11 : Int) = v2) = false →
          post [0] []))))))))))))))) ∧ (decide ((v7 : Int) = 1) = false →
     post [0] []))) ∧ (decide ((v5 : Int) = v2) = false →
    post [0] []))))) ∧ (decide ((v1 : Int) = 1) = false →
  ∀ v4 v5 v6 : Int, ∀ l1 : List Int, allHas [⟨0, 1⟩, ⟨(-9223372036854775808), 9223372036854775807⟩, ⟨(-9223372036854775808), 9223372036854775807⟩] [v4, v5, v6] → allL [(⟨(-9223372036854775808), 9223372036854775807⟩, 1099511627776)] [l1] → ([v4, v5, v6], [l1]) = T.fns 32 [v0] [] →
  ((decide ((v4 : Int) = 1) = true →
   ((decide ((v5 : Int) = v2) = true →
    ∀ v7 : Int, [v7] = T.outL 16 1 [] [([] : List Int), l0] →
    ((decide ((v7 : Int) = 1) = true →
     (((!decide ((v6 : Int) = v3)) = true →
      post [0] []) ∧ ((!decide ((v6 : Int) = v3)) = false →
      ((pre 27 [1] [([] : List Int)]) ∧ ((pre 27 [1] [([] : List Int)]) →
      ∀ v8 : Int, ∀ l2 : List Int, allHas [⟨(-9223372036854775808), 9223372036854775807⟩] [v8] → allL [(⟨(-9223372036854775808), 9223372036854775807⟩, 9223372036854775807)] [l2] → ([v8], [l2]) = T.fns 27 [1] [([] : List Int)] →
      ((pre 28 [1] [([] : List Int)]) ∧ ((pre 28 [1] [([] : List Int)]) →
      ∀ v9 : Int, [v9] = T.outL 28 1 [1] [([] : List Int)] →
      ((decide ((v9 : Int) < 0) = true →
       post [0] []) ∧ (decide ((v9 : Int) < 0) = false →
       (((!decide ((v9 : Int) = v8)) = true →
        post [0] []) ∧ ((!decide ((v9 : Int) = v8)) = false →
        ∀ v10 v11 v12 : Int, ∀ l3 : List Int, allHas [⟨0, 1⟩, ⟨(-9223372036854775808), 9223372036854775807⟩, ⟨(-9223372036854775808), 9223372036854775807⟩] [v10, v11, v12] → allL [(⟨(-9223372036854775808), 9223372036854775807⟩, 1099511627776)] [l3] → ([v10, v11, v12], [l3]) = T.fns 32 [v0] [] →
        ((decide ((v10 : Int) = 1) = true →
         ((decide ((v11 : Int) = v2) = true →
          ∀ v13 : Int, [v13] = T.outL 16 1 [] [([] : List Int), l0] →
          ((decide ((v13 : Int) = 1) = true →
           (((!decide ((v12 : Int) = v3)) = true →
            post [0] []) ∧ ((!decide ((v12 : Int) = v3)) = false →
            ((pre 28 [1] [([] : List Int)]) ∧ ((pre 28 [1] [([] : List Int)]) →
            ∀ v14 : Int, [v14] = T.outL 28 1 [1] [([] : List Int)] →
            ((decide ((v14 : Int) < 0) = true →
             post [0] []) ∧ (decide ((v14 : Int) < 0) = false →
             (((!decide ((v14 : Int) = v8)) = true →
              post [0] []) ∧ ((!decide ((v14 : Int) = v8)) = false →
              post [1] []))))))))) ∧ (decide ((v13 : Int) = 1) = false →
           post [0] []))) ∧ (decide ((v11 : Int) = v2) = false →
          post [0] []))) ∧ (decide ((v10 : Int) = 1) = false →
         ((decide ((v11 : Int) = v2) = true →
          ∀ v13 : Int, [v13] = T.outL 16 1 [] [l3, l0] →
          ((decide ((v13 : Int) = 1) = true →
           (((!decide ((v12 : Int) = v3)) = true →
            post [0] []) ∧ ((!decide ((v12 : Int) = v3)) = false →
            ((pre 28 [1] [([] : List Int)]) ∧ ((pre 28 [1] [([] : List Int)]) →
            ∀ v14 : Int, [v14] = T.outL 28 1 [1] [([] : List Int)] →
            ((decide ((v14 : Int) < 0) = true →
             post [0] []) ∧ (decide ((v14 : Int) < 0) = false →
             (((!decide ((v14 : Int) = v8)) = true →
              post [0] []) ∧ ((!decide ((v14 : Int) = v8)) = false →
              post [1] []))))))))) ∧ (decide ((v13 : Int) = 1) = false →
           post [0] []))) ∧ (decide ((v11 : Int) = v2) = false →
          post [0] []))))))))))))))) ∧ (decide ((v7 : Int) = 1) = false →
     post [0] []))) ∧ (decide ((v5 : Int) = v2) = false →
    post [0] []))) ∧ (decide ((v4 : Int) = 1) = false →
   ((decide ((v5 : Int) = v2) = true →
    ∀ v7 : Int, [v7] = T.outL 16 1 [] [l1, l0] →
    ((decide ((v7 : Int) = 1) = true →
     (((!decide ((v6 : Int) = v3)) = true →
      post [0] []) ∧ ((!decide ((v6 : Int) = v3)) = false →
      ((pre 27 [1] [l1]) ∧ ((pre 27 [1] [l1]) →
      ∀ v8 : Int, ∀ l2 : List Int, allHas [⟨(-9223372036854775808), 9223372036854775807⟩] [v8] → allL [(⟨(-9223372036854775808), 9223372036854775807⟩, 9223372036854775807)] [l2] → ([v8], [l2]) = T.fns 27 [1] [l1] →
      ((pre 28 [1] [l2]) ∧ ((pre 28 [1] [l2]) →
      ∀ v9 : Int, [v9] = T.outL 28 1 [1] [l2] →
      ((decide ((v9 : Int) < 0) = true →
       post [0] []) ∧ (decide ((v9 : Int) < 0) = false →
       (((!decide ((v9 : Int) = v8)) = true →
        post [0] []) ∧ ((!decide ((v9 : Int) = v8)) = false →
        ∀ v10 v11 v12 : Int, ∀ l3 : List Int, allHas [⟨0, 1⟩, ⟨(-9223372036854775808), 9223372036854775807⟩, ⟨(-9223372036854775808), 9223372036854775807⟩] [v10, v11, v12] → allL [(⟨(-9223372036854775808), 9223372036854775807⟩, 1099511627776)] [l3] → ([v10, v11, v12], [l3]) = T.fns 32 [v0] [] →
        ((decide ((v10 : Int) = 1) = true →
         ((decide ((v11 : Int) = v2) = true →
          ∀ v13 : Int, [v13] = T.outL 16 1 [] [([] : List Int), l0] →
          ((decide ((v13 : Int) = 1) = true →
           (((!decide ((v12 : Int) = v3)) = true →
            post [0] []) ∧ ((!decide ((v12 : Int) = v3)) = false →
            ((pre 28 [1] [l2]) ∧ ((pre 28 [1] [l2]) →
            ∀ v14 : Int, [v14] = T.outL 28 1 [1] [l2] →
            ((decide ((v14 : Int) < 0) = true →
             post [0] []) ∧ (decide ((v14 : Int) < 0) = false →
             (((!decide ((v14 : Int) = v8)) = true →
              post [0] []) ∧ ((!decide ((v14 : Int) = v8)) = false →
              post [1] []))))))))) ∧ (decide ((v13 : Int) = 1) = false →
           post [0] []))) ∧ (decide ((v11 : Int) = v2) = false →
          post [0] []))) ∧ (decide ((v10 : Int) = 1) = false →
         ((decide ((v11 : Int) = v2) = true →
          ∀ v13 : Int, [v13] = T.outL 16 1 [] [l3, l0] →
          ((decide ((v13 : Int) = 1) = true →
           (((!decide ((v12 : Int) = v3)) = true →
            post [0] []) ∧ ((!decide ((v12 : Int) = v3)) = false →
            ((pre 28 [1] [l2]) ∧ ((pre 28 [1] [l2]) →
            ∀ v14 : Int, [v14] = T.outL 28 1 [1] [l2] →
            ((decide ((v14 : Int) < 0) = true →
             post [0] []) ∧ (decide ((v14 : Int) < 0) = false →
             (((!decide ((v14 : Int) = v8)) = true →
              post [0] []) ∧ ((!decide ((v14 : Int) = v8)) = false →
              post [1] []))))))))) ∧ (decide ((v13 : Int) = 1) = false →
           post [0] []))) ∧ (decide ((v11 : Int) = v2) = false →
          post [0] []))))))))))))))) ∧ (decide ((v7 : Int) = 1) = false →
     post [0] []))) ∧ (decide ((v5 : Int) = v2) = false →
    post [0] []))))))
theorem q9 (T : Tab) (I : Nat → Env → Env → Prop) (M : Nat → Env → Env → Nat) (pre : Nat → List Int → List (List Int) → Prop) (post : List Int → List (List Int) → Prop) (v0 : Int) : t9.plain T (presG pre I M) post ⟨[v0], []⟩ = p9 T I M pre post v0 := by kernel_rfl
theorem k9 (T : Tab) (I : Nat → Env → Env → Prop) (M : Nat → Env → Env → Nat) (pre : Nat → List Int → List (List Int) → Prop) (hs : SubSig T c9.sigs) (ht : TotG pre c9.sigs) (hg : T.sig 9 = some s9) (hC : CtAll Try.prog T.fns (presQ pre) c9.sigs) (hk : CpAll Try.prog c9.cps) (hlf : LfAll Try.prog T.fns (presQ pre) c9.lfs) (hwf : WfAll Try.prog T.fns (presQ pre) c9.wfs) (hi : ∀ xs ls, allHas (parIvs s9.params) xs → pre 9 xs ls → allHas iv9 xs)
    (h : ∀ (v0 : Int), allHas iv9 [v0] → allL (parLvs s9.params) [] → pre 9 [v0] [] → p9 T I M pre (fun ys _ => ys = T.app 9 [v0] []) v0) : CT Try.prog T.fns (presQ pre) 9 s9 :=
  T.ctg (hlf := hlf) (hwf := hwf) (F := ⟨c9, []⟩) (fuel := 250) vc9 Try.checked.mixed hs ht hg hC hk Try.func9 I M (fun xs ls h1 h2 h3 => ⟨hi xs ls h1 h3, h2⟩) fun xs ls hx hl hp => by
    match xs, ls, hx, hl, hp with
    | [v0], [], hx, hl, hp => rw [q9]; exact h v0 hx hl hp
end Go.Proofs.Ytfpodondpanmaaa.Sx
