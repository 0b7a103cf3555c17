import Derived.Test.YtjpcmjgogdemoaaSxY
import Derived.Test.YtjpcmjgogdemoaaA1
import Derived.Test.YtjpcmjgogdemoaaB1
import Derived.Test.YtjpcmjgogdemoaaB2
import Derived.Test.YtjpcmjgogdemoaaB3
import Derived.Test.YtjpcmjgogdemoaaChecked
import Derived.KernelRfl
namespace Go.Proofs.Ytjpcmjgogdemoaa.Sx
open Go Go.RowKit
/-- loop.example/g01242/spec.TermsOf -/
def s55 : LSig := ⟨[.val true [.i .i64, .i .i64]], [.l false [[.i64]] [2], .n false [.i .i64]], true⟩
noncomputable def c55 : Cfg := ⟨Try.prog, [(95, s95), (81, s81), (75, s75)], [], [], []⟩
def iv55 : List Iv := [⟨(-9223372036854775808), 9223372036854775807⟩, ⟨(-9223372036854775808), 9223372036854775807⟩]
def t55 : VC :=
 (.call 95 (.e (.var 0) (.e (.var 1) .nil)) 1
 (.ite (.not (.eq (.var 2) (.lit 1)))
  (.need []
  (.fin (.e (.lit 0) (.e (.lit 1) (.l (.lit []) .nil)))))
  (.loop 1 [(.var 0), (.var 1)] [(.lit [])] [⟨(-9223372036854775808), 9223372036854775807⟩, ⟨(-9223372036854775808), 9223372036854775807⟩] [(⟨(-9223372036854775808), 9223372036854775807⟩, 9223372036854775807)]
   (.ite (.not (.eq (.var 4) (.lit 0)))
    (.need [(.pre 81 (.e (.var 3) (.e (.var 4) .nil)))]
    (.call 81 (.e (.var 3) (.e (.var 4) .nil)) 1
    (.need [(.b (.le (.len (.cat (.var 0) (.one (.var 5)))) (.lit 1099511627776)))]
    (.bind (.wrap .i64 (.sub (.var 3) (.wrap .i64 (.mul (.var 5) (.var 4)))))
    (.need [(.b (.le (.len (.cat (.var 0) (.one (.var 5)))) (.lit 9223372036854775807)))]
    (.again 1 3 0 [⟨(-9223372036854775808), 9223372036854775807⟩, ⟨(-9223372036854775808), 9223372036854775807⟩] [(.var 4), (.var 6)] [(.cat (.var 0) (.one (.var 5)))]))))))
    (.call 75 (.l (.var 0) .nil) 1
    (.ite (.not (.eq (.var 5) (.lit 1)))
     (.need []
     (.fin (.e (.lit 0) (.e (.lit 3) (.l (.lit []) .nil)))))
     (.need [(.b (.eq (.len (.var 0)) (.len (.var 0)))), (.b (.le (.len (.var 0)) (.lit 1099511627776)))]
     (.fin (.e (.lit 0) (.e (.lit 0) (.l (.var 0) .nil)))))))))))
theorem vc55 : vcLf ⟨c55, [(6, ⟨1, [5, 6], [], [17, 18, 19, 20, 21, 7, 22, 23, 24, 25, 4, 26, 27, 28, 29, 30, 8, 31, 32], [⟨(-9223372036854775808), 9223372036854775807⟩, ⟨(-9223372036854775808), 9223372036854775807⟩], [1], [1]⟩)]⟩ iv55 (parLvs s55.params) 250 Try.f55 s55 = t55 := by kernel_rfl
set_option linter.unusedVariables false in
def p55 (T : Tab) (I : Nat → Env → Env → Prop) (M : Nat → Env → Env → Nat) (pre : Nat → List Int → List (List Int) → Prop) (post : List Int → List (List Int) → Prop) (v0 v1 : Int) : Prop :=
 ∀ v2 : Int, [v2] = T.out 95 1 [v0, v1] →
 (((!decide ((v2 : Int) = 1)) = true →
  ((True) ∧ ((True) →
  post [0, 1] [([] : List Int)]))) ∧ ((!decide ((v2 : Int) = 1)) = false →
  ((allHas [⟨(-9223372036854775808), 9223372036854775807⟩, ⟨(-9223372036854775808), 9223372036854775807⟩] [v0, v1] ∧ I 1 ⟨[v0, v1, v2], []⟩ ⟨[v0, v1], [([] : List Int)]⟩) ∧ ∀ v3 v4 : Int, ∀ l0 : List Int, allHas [⟨(-9223372036854775808), 9223372036854775807⟩, ⟨(-9223372036854775808), 9223372036854775807⟩] [v3, v4] → allL [(⟨(-9223372036854775808), 9223372036854775807⟩, 9223372036854775807)] [l0] → I 1 ⟨[v0, v1, v2], []⟩ ⟨[v3, v4], [l0]⟩ →
   (((!decide ((v4 : Int) = 0)) = true →
    ((pre 81 [v3, v4] []) ∧ ((pre 81 [v3, v4] []) →
    ∀ v5 : Int, [v5] = T.out 81 1 [v3, v4] →
    ((decide (((List.length (l0 ++ [v5]) : Int) : Int) ≤ 1099511627776) = true) ∧ ((decide (((List.length (l0 ++ [v5]) : Int) : Int) ≤ 1099511627776) = true) →
    ∀ v6 : Int, v6 = (IntKind.wrap .i64 (v3 - (IntKind.wrap .i64 (v5 * v4)))) →
    ((decide (((List.length (l0 ++ [v5]) : Int) : Int) ≤ 9223372036854775807) = true) ∧ ((decide (((List.length (l0 ++ [v5]) : Int) : Int) ≤ 9223372036854775807) = true) →
    (allHas [⟨(-9223372036854775808), 9223372036854775807⟩, ⟨(-9223372036854775808), 9223372036854775807⟩] [v4, v6] ∧ I 1 ⟨[v0, v1, v2], []⟩ ⟨[v4, v6], [(l0 ++ [v5])]⟩ ∧ M 1 ⟨[v0, v1, v2], []⟩ ⟨[v4, v6], [(l0 ++ [v5])]⟩ < M 1 ⟨[v0, v1, v2], []⟩ ⟨[v3, v4], [l0]⟩)))))))) ∧ ((!decide ((v4 : Int) = 0)) = false →
    ∀ v5 : Int, [v5] = T.outL 75 1 [] [l0] →
    (((!decide ((v5 : Int) = 1)) = true →
     ((True) ∧ ((True) →
     post [0, 3] [([] : List Int)]))) ∧ ((!decide ((v5 : Int) = 1)) = false →
     ((decide (((List.length l0 : Int) : Int) = (List.length l0 : Int)) = true ∧ decide (((List.length l0 : Int) : Int) ≤ 1099511627776) = true) ∧ ((decide (((List.length l0 : Int) : Int) = (List.length l0 : Int)) = true ∧ decide (((List.length l0 : Int) : Int) ≤ 1099511627776) = true) →
     post [0, 0] [l0])))))))))
theorem q55 (T : Tab) (I : Nat → Env → Env → Prop) (M : Nat → Env → Env → Nat) (pre : Nat → List Int → List (List Int) → Prop) (post : List Int → List (List Int) → Prop) (v0 v1 : Int) : t55.plain T (presG pre I M) post ⟨[v0, v1], []⟩ = p55 T I M pre post v0 v1 := by kernel_rfl
theorem k55 (T : Tab) (I : Nat → Env → Env → Prop) (M : Nat → Env → Env → Nat) (pre : Nat → List Int → List (List Int) → Prop) (hs : SubSig T c55.sigs) (ht : TotG pre c55.sigs) (hC : CtAll Try.prog T.fns (presQ pre) c55.sigs) (hk : CpAll Try.prog c55.cps) (hi : ∀ xs ls, allHas (parIvs s55.params) xs → pre 55 xs ls → allHas iv55 xs)
    (h : ∀ (v0 v1 : Int), allHas iv55 [v0, v1] → allL (parLvs s55.params) [] → pre 55 [v0, v1] [] → p55 T I M pre (fun ys zs => T.fns 55 [v0, v1] [] = (ys, zs)) v0 v1) : CTL Try.prog T.fns (presQ pre) 55 s55 :=
  T.ctl (F := ⟨c55, [(6, ⟨1, [5, 6], [], [17, 18, 19, 20, 21, 7, 22, 23, 24, 25, 4, 26, 27, 28, 29, 30, 8, 31, 32], [⟨(-9223372036854775808), 9223372036854775807⟩, ⟨(-9223372036854775808), 9223372036854775807⟩], [1], [1]⟩)]⟩) (fuel := 250) vc55 Try.checked.mixed hs ht hC hk Try.func55 I M (fun xs ls h1 h2 h3 => ⟨hi xs ls h1 h3, h2⟩) fun xs ls hx hl hp => by
    match xs, ls, hx, hl, hp with
    | [v0, v1], [], hx, hl, hp => rw [q55]; exact h v0 v1 hx hl hp
/-- loop.example/g01242/impl.TermsOf -/
def s56 : LSig := ⟨[.val true [.i .i64, .i .i64]], [.l false [[.i64]] [2], .n false [.i .i64]], true⟩
noncomputable def c56 : Cfg := ⟨Try.prog, [(87, s87), (96, s96), (31, s31)], [], [], []⟩
def iv56 : List Iv := [⟨(-9223372036854775808), 9223372036854775807⟩, ⟨(-9223372036854775808), 9223372036854775807⟩]
def t56 : VC :=
 (.call 87 (.e (.var 0) (.e (.var 1) .nil)) 1
 (.ite (.not (.eq (.var 2) (.lit 1)))
  (.fin (.e (.lit 1) (.e (.lit 1) (.l (.lit []) .nil))))
  (.ite (.not (.eq (.var 1) (.lit 0)))
   (.need [(.pre 96 (.e (.var 0) (.e (.var 1) .nil)))]
   (.call 96 (.e (.var 0) (.e (.var 1) .nil)) 1
   (.bind (.wrap .i64 (.sub (.var 0) (.wrap .i64 (.mul (.var 3) (.var 1)))))
   (.loop 1 [(.var 1), (.var 4)] [(.one (.var 3))] [⟨(-9223372036854775808), 9223372036854775807⟩, ⟨(-9223372036854775808), 9223372036854775807⟩] [(⟨(-9223372036854775808), 9223372036854775807⟩, 9223372036854775807)]
    (.ite (.not (.eq (.var 6) (.lit 0)))
     (.need [(.pre 96 (.e (.var 5) (.e (.var 6) .nil)))]
     (.call 96 (.e (.var 5) (.e (.var 6) .nil)) 1
     (.need [(.b (.le (.len (.cat (.var 0) (.one (.var 7)))) (.lit 1099511627776)))]
     (.bind (.wrap .i64 (.sub (.var 5) (.wrap .i64 (.mul (.var 7) (.var 6)))))
     (.need [(.b (.le (.len (.cat (.var 0) (.one (.var 7)))) (.lit 9223372036854775807)))]
     (.again 1 5 0 [⟨(-9223372036854775808), 9223372036854775807⟩, ⟨(-9223372036854775808), 9223372036854775807⟩] [(.var 6), (.var 8)] [(.cat (.var 0) (.one (.var 7)))]))))))
     (.call 31 (.l (.var 0) .nil) 1
     (.ite (.not (.eq (.var 7) (.lit 1)))
      (.fin (.e (.lit 1) (.e (.lit 3) (.l (.lit []) .nil))))
      (.need [(.b (.eq (.len (.var 0)) (.len (.var 0)))), (.b (.le (.len (.var 0)) (.lit 1099511627776)))]
      (.fin (.e (.lit 0) (.e (.lit 0) (.l (.var 0) .nil))))))))))))
   (.call 31 (.l (.lit []) .nil) 1
   (.ite (.not (.eq (.var 3) (.lit 1)))
    (.fin (.e (.lit 1) (.e (.lit 3) (.l (.lit []) .nil))))
    (.fin (.e (.lit 1) (.e (.lit 0) (.l (.lit []) .nil)))))))))
theorem vc56 : vcLf ⟨c56, [(5, ⟨1, [5, 6], [], [15, 16, 17, 18, 19, 7, 20, 21, 22, 23, 4, 24, 25, 26, 27, 28, 29], [⟨(-9223372036854775808), 9223372036854775807⟩, ⟨(-9223372036854775808), 9223372036854775807⟩], [2], [2]⟩)]⟩ iv56 (parLvs s56.params) 250 Try.f56 s56 = t56 := by kernel_rfl
set_option linter.unusedVariables false in
def p56 (T : Tab) (I : Nat → Env → Env → Prop) (M : Nat → Env → Env → Nat) (pre : Nat → List Int → List (List Int) → Prop) (post : List Int → List (List Int) → Prop) (v0 v1 : Int) : Prop :=
 ∀ v2 : Int, [v2] = T.out 87 1 [v0, v1] →
 (((!decide ((v2 : Int) = 1)) = true →
  post [1, 1] [([] : List Int)]) ∧ ((!decide ((v2 : Int) = 1)) = false →
  (((!decide ((v1 : Int) = 0)) = true →
   ((pre 96 [v0, v1] []) ∧ ((pre 96 [v0, v1] []) →
   ∀ v3 : Int, [v3] = T.out 96 1 [v0, v1] →
   ∀ v4 : Int, v4 = (IntKind.wrap .i64 (v0 - (IntKind.wrap .i64 (v3 * v1)))) →
   ((allHas [⟨(-9223372036854775808), 9223372036854775807⟩, ⟨(-9223372036854775808), 9223372036854775807⟩] [v1, v4] ∧ I 1 ⟨[v0, v1, v2, v3, v4], []⟩ ⟨[v1, v4], [[v3]]⟩) ∧ ∀ v5 v6 : Int, ∀ l0 : List Int, allHas [⟨(-9223372036854775808), 9223372036854775807⟩, ⟨(-9223372036854775808), 9223372036854775807⟩] [v5, v6] → allL [(⟨(-9223372036854775808), 9223372036854775807⟩, 9223372036854775807)] [l0] → I 1 ⟨[v0, v1, v2, v3, v4], []⟩ ⟨[v5, v6], [l0]⟩ →
    (((!decide ((v6 : Int) = 0)) = true →
     ((pre 96 [v5, v6] []) ∧ ((pre 96 [v5, v6] []) →
     ∀ v7 : Int, [v7] = T.out 96 1 [v5, v6] →
     ((decide (((List.length (l0 ++ [v7]) : Int) : Int) ≤ 1099511627776) = true) ∧ ((decide (((List.length (l0 ++ [v7]) : Int) : Int) ≤ 1099511627776) = true) →
     ∀ v8 : Int, v8 = (IntKind.wrap .i64 (v5 - (IntKind.wrap .i64 (v7 * v6)))) →
     ((decide (((List.length (l0 ++ [v7]) : Int) : Int) ≤ 9223372036854775807) = true) ∧ ((decide (((List.length (l0 ++ [v7]) : Int) : Int) ≤ 9223372036854775807) = true) →
     (allHas [⟨(-9223372036854775808), 9223372036854775807⟩, ⟨(-9223372036854775808), 9223372036854775807⟩] [v6, v8] ∧ I 1 ⟨[v0, v1, v2, v3, v4], []⟩ ⟨[v6, v8], [(l0 ++ [v7])]⟩ ∧ M 1 ⟨[v0, v1, v2, v3, v4], []⟩ ⟨[v6, v8], [(l0 ++ [v7])]⟩ < M 1 ⟨[v0, v1, v2, v3, v4], []⟩ ⟨[v5, v6], [l0]⟩)))))))) ∧ ((!decide ((v6 : Int) = 0)) = false →
     ∀ v7 : Int, [v7] = T.outL 31 1 [] [l0] →
     (((!decide ((v7 : Int) = 1)) = true →
      post [1, 3] [([] : List Int)]) ∧ ((!decide ((v7 : Int) = 1)) = false →
      ((decide (((List.length l0 : Int) : Int) = (List.length l0 : Int)) = true ∧ decide (((List.length l0 : Int) : Int) ≤ 1099511627776) = true) ∧ ((decide (((List.length l0 : Int) : Int) = (List.length l0 : Int)) = true ∧ decide (((List.length l0 : Int) : Int) ≤ 1099511627776) = true) →
      post [0, 0] [l0])))))))))) ∧ ((!decide ((v1 : Int) = 0)) = false →
   ∀ v3 : Int, [v3] = T.outL 31 1 [] [([] : List Int)] →
   (((!decide ((v3 : Int) = 1)) = true →
    post [1, 3] [([] : List Int)]) ∧ ((!decide ((v3 : Int) = 1)) = false →
    post [1, 0] [([] : List Int)]))))))
theorem q56 (T : Tab) (I : Nat → Env → Env → Prop) (M : Nat → Env → Env → Nat) (pre : Nat → List Int → List (List Int) → Prop) (post : List Int → List (List Int) → Prop) (v0 v1 : Int) : t56.plain T (presG pre I M) post ⟨[v0, v1], []⟩ = p56 T I M pre post v0 v1 := by kernel_rfl
theorem k56 (T : Tab) (I : Nat → Env → Env → Prop) (M : Nat → Env → Env → Nat) (pre : Nat → List Int → List (List Int) → Prop) (hs : SubSig T c56.sigs) (ht : TotG pre c56.sigs) (hC : CtAll Try.prog T.fns (presQ pre) c56.sigs) (hk : CpAll Try.prog c56.cps) (hi : ∀ xs ls, allHas (parIvs s56.params) xs → pre 56 xs ls → allHas iv56 xs)
    (h : ∀ (v0 v1 : Int), allHas iv56 [v0, v1] → allL (parLvs s56.params) [] → pre 56 [v0, v1] [] → p56 T I M pre (fun ys zs => T.fns 56 [v0, v1] [] = (ys, zs)) v0 v1) : CTL Try.prog T.fns (presQ pre) 56 s56 :=
  T.ctl (F := ⟨c56, [(5, ⟨1, [5, 6], [], [15, 16, 17, 18, 19, 7, 20, 21, 22, 23, 4, 24, 25, 26, 27, 28, 29], [⟨(-9223372036854775808), 9223372036854775807⟩, ⟨(-9223372036854775808), 9223372036854775807⟩], [2], [2]⟩)]⟩) (fuel := 250) vc56 Try.checked.mixed hs ht hC hk Try.func56 I M (fun xs ls h1 h2 h3 => ⟨hi xs ls h1 h3, h2⟩) fun xs ls hx hl hp => by
    match xs, ls, hx, hl, hp with
    | [v0, v1], [], hx, hl, hp => rw [q56]; exact h v0 v1 hx hl hp
/-- loop.example/g01242/laws.markInt64S -/
def s57 : WSig := ⟨[.i64], 2, [.i .i64], [(false, [.i .i64])], false⟩
noncomputable def c57 : Cfg := ⟨Try.prog, [], [], [], []⟩
def iv57 : List Iv := [⟨(-9223372036854775808), 9223372036854775807⟩]
def t57 : VC :=
 (.loop 1 [(.var 0), (.lit 0)] [(.var 0)] [⟨(-9223372036854775808), 9223372036854775807⟩, ⟨(-9223372036854775808), 9223372036854775807⟩] [(⟨(-9223372036854775808), 9223372036854775807⟩, 9223372036854775807)]
  (.ite (.lt (.var 2) (.len (.var 0)))
   (.need [(.b (.le (.lit 0) (.var 2))), (.b (.lt (.var 2) (.len (.var 0)))), (.b (.lt (.add (.lit 0) (.var 2)) (.len (.var 1))))]
   (.need [(.b (.lt (.add (.lit 0) (.var 2)) (.len (.var 1))))]
   (.bind (.wrap .i64 (.add (.var 1) (.lit 1)))
   (.bind (.wrap .i64 (.add (.var 2) (.lit 1)))
   (.again 1 1 1 [⟨(-9223372036854775808), 9223372036854775807⟩, ⟨(-9223372036854775808), 9223372036854775807⟩] [(.var 3), (.var 4)] [(.set (.var 1) (.add (.lit 0) (.var 2)) (.var 1))])))))
   (.need [(.b (.eq (.len (.var 1)) (.len (.var 0))))]
   (.fin (.e (.var 1) (.l (.var 1) .nil))))))
def u57 : VC :=
 (.fin (.e (.var 0) (.l (.lit []) .nil)))
theorem vc57 : vcWf ⟨c57, [(2, ⟨1, [1, 5], [], [6, 7, 8, 9, 12, 13, 14, 15, 16, 17, 10, 11], [⟨(-9223372036854775808), 9223372036854775807⟩, ⟨(-9223372036854775808), 9223372036854775807⟩], [0], []⟩)]⟩ iv57 250 Try.f57 s57 true = t57 := by kernel_rfl
theorem vd57 : vcWf ⟨c57, [(2, ⟨1, [1, 5], [], [6, 7, 8, 9, 12, 13, 14, 15, 16, 17, 10, 11], [⟨(-9223372036854775808), 9223372036854775807⟩, ⟨(-9223372036854775808), 9223372036854775807⟩], [0], []⟩)]⟩ iv57 250 Try.f57 s57 false = u57 := by kernel_rfl
set_option linter.unusedVariables false in
def p57 (T : Tab) (I : Nat → Env → Env → Prop) (M : Nat → Env → Env → Nat) (pre : Nat → List Int → List (List Int) → Prop) (post : List Int → List (List Int) → Prop) (v0 : Int) (l0 : List Int) : Prop :=
 ((allHas [⟨(-9223372036854775808), 9223372036854775807⟩, ⟨(-9223372036854775808), 9223372036854775807⟩] [v0, 0] ∧ I 1 ⟨[v0], [l0]⟩ ⟨[v0, 0], [l0]⟩) ∧ ∀ v1 v2 : Int, ∀ l1 : List Int, allHas [⟨(-9223372036854775808), 9223372036854775807⟩, ⟨(-9223372036854775808), 9223372036854775807⟩] [v1, v2] → allL [(⟨(-9223372036854775808), 9223372036854775807⟩, 9223372036854775807)] [l1] → I 1 ⟨[v0], [l0]⟩ ⟨[v1, v2], [l1]⟩ →
  ((decide ((v2 : Int) < (List.length l0 : Int)) = true →
   ((decide ((0 : Int) ≤ v2) = true ∧ decide ((v2 : Int) < (List.length l0 : Int)) = true ∧ decide (((0 + v2) : Int) < (List.length l1 : Int)) = true) ∧ ((decide ((0 : Int) ≤ v2) = true ∧ decide ((v2 : Int) < (List.length l0 : Int)) = true ∧ decide (((0 + v2) : Int) < (List.length l1 : Int)) = true) →
   ((decide (((0 + v2) : Int) < (List.length l1 : Int)) = true) ∧ ((decide (((0 + v2) : Int) < (List.length l1 : Int)) = true) →
   ∀ v3 : Int, v3 = (IntKind.wrap .i64 (v1 + 1)) →
   ∀ v4 : Int, v4 = (IntKind.wrap .i64 (v2 + 1)) →
   (allHas [⟨(-9223372036854775808), 9223372036854775807⟩, ⟨(-9223372036854775808), 9223372036854775807⟩] [v3, v4] ∧ I 1 ⟨[v0], [l0]⟩ ⟨[v3, v4], [(List.set l1 (Int.toNat (0 + v2)) v1)]⟩ ∧ M 1 ⟨[v0], [l0]⟩ ⟨[v3, v4], [(List.set l1 (Int.toNat (0 + v2)) v1)]⟩ < M 1 ⟨[v0], [l0]⟩ ⟨[v1, v2], [l1]⟩)))))) ∧ (decide ((v2 : Int) < (List.length l0 : Int)) = false →
   ((decide (((List.length l1 : Int) : Int) = (List.length l0 : Int)) = true) ∧ ((decide (((List.length l1 : Int) : Int) = (List.length l0 : Int)) = true) →
   post [v1] [l1])))))
set_option linter.unusedVariables false in
def r57 (T : Tab) (I : Nat → Env → Env → Prop) (M : Nat → Env → Env → Nat) (pre : Nat → List Int → List (List Int) → Prop) (post : List Int → List (List Int) → Prop) (v0 : Int) : Prop :=
 post [v0] [([] : List Int)]
theorem q57 (T : Tab) (I : Nat → Env → Env → Prop) (M : Nat → Env → Env → Nat) (pre : Nat → List Int → List (List Int) → Prop) (post : List Int → List (List Int) → Prop) (v0 : Int) (l0 : List Int) : t57.plain T (presG pre I M) post ⟨[v0], [l0]⟩ = p57 T I M pre post v0 l0 := by kernel_rfl
theorem qn57 (T : Tab) (I : Nat → Env → Env → Prop) (M : Nat → Env → Env → Nat) (pre : Nat → List Int → List (List Int) → Prop) (post : List Int → List (List Int) → Prop) (v0 : Int) : u57.plain T (presG pre I M) post ⟨[v0], []⟩ = r57 T I M pre post v0 := by kernel_rfl
theorem k57 (T : Tab) (I : Nat → Env → Env → Prop) (M : Nat → Env → Env → Nat) (pre : Nat → List Int → List (List Int) → Prop) (hs : SubSig T c57.sigs) (ht : TotG pre c57.sigs) (hC : CtAll Try.prog T.fns (presQ pre) c57.sigs) (hk : CpAll Try.prog c57.cps) (hi : ∀ xs ls, allHas (parIvs s57.params) xs → pre 57 xs ls → allHas iv57 xs)
    (ho : ∀ (v0 : Int) (l0 : List Int), allHas iv57 [v0] → allL [s57.lv] [l0] → pre 57 [v0] [l0] → p57 T I M pre (fun ys zs => T.fns 57 [v0] [l0] = (ys, zs)) v0 l0)
    (hn : ∀ (v0 : Int), allHas iv57 [v0] → pre 57 [v0] [[]] → r57 T I M pre (fun ys zs => T.fns 57 [v0] [[]] = (ys, zs)) v0) : CTW Try.prog T.fns (presQ pre) 57 s57 :=
  T.ctw (F := ⟨c57, [(2, ⟨1, [1, 5], [], [6, 7, 8, 9, 12, 13, 14, 15, 16, 17, 10, 11], [⟨(-9223372036854775808), 9223372036854775807⟩, ⟨(-9223372036854775808), 9223372036854775807⟩], [0], []⟩)]⟩) (fuel := 250) vc57 vd57 Try.checked.mixed hs ht hC hk Try.func57 I M hi (fun xs l hx hl hp => by
    match xs, hx, hp with
    | [v0], hx, hp => rw [q57]; exact ho v0 l hx hl hp) fun xs hx hp => by
    match xs, hx, hp with
    | [v0], hx, hp => rw [qn57]; exact hn v0 hx hp
/-- loop.example/g01242/laws.heldInt64S -/
def s58 : Sig := ⟨[.lst [.i64], .val false [.i .i64]], [(false, [.i .i64])], false⟩
noncomputable def c58 : Cfg := ⟨Try.prog, [], [], [], []⟩
def iv58 : List Iv := [⟨(-9223372036854775808), 9223372036854775807⟩]
def t58 : VC :=
 (.loop 1 [(.var 0), (.lit 0)] [] [⟨(-9223372036854775808), 9223372036854775807⟩, ⟨(-9223372036854775808), 9223372036854775807⟩] []
  (.ite (.lt (.var 2) (.len (.var 0)))
   (.need [(.b (.le (.lit 0) (.var 2))), (.b (.lt (.var 2) (.len (.var 0))))]
   (.need [(.b (.lt (.add (.lit 0) (.var 2)) (.len (.var 0))))]
   (.bind (.at (.var 0) (.add (.lit 0) (.var 2)))
   (.ite (.not (.eq (.var 3) (.var 1)))
    (.fin (.e (.lit (-1)) .nil))
    (.bind (.wrap .i64 (.add (.var 1) (.lit 1)))
    (.bind (.wrap .i64 (.add (.var 2) (.lit 1)))
    (.again 1 1 1 [⟨(-9223372036854775808), 9223372036854775807⟩, ⟨(-9223372036854775808), 9223372036854775807⟩] [(.var 4), (.var 5)] [])))))))
   (.fin (.e (.var 1) .nil))))
theorem vc58 : vcOfI ⟨c58, [(2, ⟨1, [1, 5], [], [6, 7, 8, 9, 12, 13, 14, 15, 16, 17, 4, 18, 19, 10, 11], [⟨(-9223372036854775808), 9223372036854775807⟩, ⟨(-9223372036854775808), 9223372036854775807⟩], [], []⟩)]⟩ iv58 (parLvs s58.params) 250 Try.f58 s58 = t58 := by kernel_rfl
set_option linter.unusedVariables false in
def p58 (T : Tab) (I : Nat → Env → Env → Prop) (M : Nat → Env → Env → Nat) (pre : Nat → List Int → List (List Int) → Prop) (post : List Int → List (List Int) → Prop) (v0 : Int) (l0 : List Int) : Prop :=
 ((allHas [⟨(-9223372036854775808), 9223372036854775807⟩, ⟨(-9223372036854775808), 9223372036854775807⟩] [v0, 0] ∧ I 1 ⟨[v0], [l0]⟩ ⟨[v0, 0], []⟩) ∧ ∀ v1 v2 : Int, allHas [⟨(-9223372036854775808), 9223372036854775807⟩, ⟨(-9223372036854775808), 9223372036854775807⟩] [v1, v2] → I 1 ⟨[v0], [l0]⟩ ⟨[v1, v2], []⟩ →
  ((decide ((v2 : Int) < (List.length l0 : Int)) = true →
   ((decide ((0 : Int) ≤ v2) = true ∧ decide ((v2 : Int) < (List.length l0 : Int)) = true) ∧ ((decide ((0 : Int) ≤ v2) = true ∧ decide ((v2 : Int) < (List.length l0 : Int)) = true) →
   ((decide (((0 + v2) : Int) < (List.length l0 : Int)) = true) ∧ ((decide (((0 + v2) : Int) < (List.length l0 : Int)) = true) →
   ∀ v3 : Int, v3 = (List.getD l0 (Int.toNat (0 + v2)) 0) →
   (((!decide ((v3 : Int) = v1)) = true →
    post [(-1)] []) ∧ ((!decide ((v3 : Int) = v1)) = false →
    ∀ v4 : Int, v4 = (IntKind.wrap .i64 (v1 + 1)) →
    ∀ v5 : Int, v5 = (IntKind.wrap .i64 (v2 + 1)) →
    (allHas [⟨(-9223372036854775808), 9223372036854775807⟩, ⟨(-9223372036854775808), 9223372036854775807⟩] [v4, v5] ∧ I 1 ⟨[v0], [l0]⟩ ⟨[v4, v5], []⟩ ∧ M 1 ⟨[v0], [l0]⟩ ⟨[v4, v5], []⟩ < M 1 ⟨[v0], [l0]⟩ ⟨[v1, v2], []⟩)))))))) ∧ (decide ((v2 : Int) < (List.length l0 : Int)) = false →
   post [v1] [])))
theorem q58 (T : Tab) (I : Nat → Env → Env → Prop) (M : Nat → Env → Env → Nat) (pre : Nat → List Int → List (List Int) → Prop) (post : List Int → List (List Int) → Prop) (v0 : Int) (l0 : List Int) : t58.plain T (presG pre I M) post ⟨[v0], [l0]⟩ = p58 T I M pre post v0 l0 := by kernel_rfl
theorem k58 (T : Tab) (I : Nat → Env → Env → Prop) (M : Nat → Env → Env → Nat) (pre : Nat → List Int → List (List Int) → Prop) (hs : SubSig T c58.sigs) (ht : TotG pre c58.sigs) (hg : T.sig 58 = some s58) (hC : CtAll Try.prog T.fns (presQ pre) c58.sigs) (hk : CpAll Try.prog c58.cps) (hi : ∀ xs ls, allHas (parIvs s58.params) xs → pre 58 xs ls → allHas iv58 xs)
    (h : ∀ (v0 : Int) (l0 : List Int), allHas iv58 [v0] → allL (parLvs s58.params) [l0] → pre 58 [v0] [l0] → p58 T I M pre (fun ys _ => ys = T.app 58 [v0] [l0]) v0 l0) : CT Try.prog T.fns (presQ pre) 58 s58 :=
  T.ctg (F := ⟨c58, [(2, ⟨1, [1, 5], [], [6, 7, 8, 9, 12, 13, 14, 15, 16, 17, 4, 18, 19, 10, 11], [⟨(-9223372036854775808), 9223372036854775807⟩, ⟨(-9223372036854775808), 9223372036854775807⟩], [], []⟩)]⟩) (fuel := 250) vc58 Try.checked.mixed hs ht hg hC hk Try.func58 I M (fun xs ls h1 h2 h3 => ⟨hi xs ls h1 h3, h2⟩) fun xs ls hx hl hp => by
    match xs, ls, hx, hl, hp with
    | [v0], [l0], hx, hl, hp => rw [q58]; exact h v0 l0 hx hl hp
/-- loop.example/g01242/laws.FnExactTermsOf -/
def s15 : Sig := ⟨[.val true [.i .i64, .i .i64]], [(false, [.b])], true⟩
noncomputable def c15 : Cfg := ⟨Try.prog, [(36, s36), (32, s32), (58, s58)], [], [(55, s55), (56, s56)], [(57, s57)]⟩
def iv15 : List Iv := [⟨(-9223372036854775808), 9223372036854775807⟩, ⟨(-9223372036854775808), 9223372036854775807⟩]
def t15 : VC :=
 (.call 36 (.e (.var 0) (.e (.var 1) .nil)) 2
 (.calll 55 (.e (.var 2) (.e (.var 3) .nil)) [⟨0, 1⟩, ⟨(-9223372036854775808), 9223372036854775807⟩] [(⟨(-9223372036854775808), 9223372036854775807⟩, 1099511627776)]
 (.ite (.eq (.var 4) (.lit 1))
  (.call 36 (.e (.var 0) (.e (.var 1) .nil)) 2
  (.calll 56 (.e (.var 6) (.e (.var 7) .nil)) [⟨0, 1⟩, ⟨(-9223372036854775808), 9223372036854775807⟩] [(⟨(-9223372036854775808), 9223372036854775807⟩, 1099511627776)]
  (.ite (.eq (.var 8) (.lit 1))
   (.call 32 (.l (.lit []) (.l (.lit []) .nil)) 1
   (.ite (.eq (.var 10) (.lit 1))
    (.ite (.not (.eq (.var 9) (.var 5)))
     (.fin (.e (.lit 0) .nil))
     (.need [(.pre 57 (.l (.lit []) (.e (.lit 1) .nil)))]
     (.calll 57 (.l (.lit []) (.e (.lit 1) .nil)) [⟨(-9223372036854775808), 9223372036854775807⟩] [(⟨(-9223372036854775808), 9223372036854775807⟩, 9223372036854775807)]
     (.need [(.pre 58 (.l (.lit []) (.e (.lit 1) .nil)))]
     (.call 58 (.l (.lit []) (.e (.lit 1) .nil)) 1
     (.ite (.lt (.var 12) (.lit 0))
      (.fin (.e (.lit 0) .nil))
      (.ite (.not (.eq (.var 12) (.var 11)))
       (.fin (.e (.lit 0) .nil))
       (.call 36 (.e (.var 0) (.e (.var 1) .nil)) 2
       (.calll 56 (.e (.var 13) (.e (.var 14) .nil)) [⟨0, 1⟩, ⟨(-9223372036854775808), 9223372036854775807⟩] [(⟨(-9223372036854775808), 9223372036854775807⟩, 1099511627776)]
       (.ite (.eq (.var 15) (.lit 1))
        (.call 32 (.l (.lit []) (.l (.lit []) .nil)) 1
        (.ite (.eq (.var 17) (.lit 1))
         (.ite (.not (.eq (.var 16) (.var 5)))
          (.fin (.e (.lit 0) .nil))
          (.need [(.pre 58 (.l (.lit []) (.e (.lit 1) .nil)))]
          (.call 58 (.l (.lit []) (.e (.lit 1) .nil)) 1
          (.ite (.lt (.var 18) (.lit 0))
           (.fin (.e (.lit 0) .nil))
           (.ite (.not (.eq (.var 18) (.var 11)))
            (.fin (.e (.lit 0) .nil))
            (.fin (.e (.lit 1) .nil)))))))
         (.fin (.e (.lit 0) .nil))))
        (.call 32 (.l (.var 3) (.l (.lit []) .nil)) 1
        (.ite (.eq (.var 17) (.lit 1))
         (.ite (.not (.eq (.var 16) (.var 5)))
          (.fin (.e (.lit 0) .nil))
          (.need [(.pre 58 (.l (.lit []) (.e (.lit 1) .nil)))]
          (.call 58 (.l (.lit []) (.e (.lit 1) .nil)) 1
          (.ite (.lt (.var 18) (.lit 0))
           (.fin (.e (.lit 0) .nil))
           (.ite (.not (.eq (.var 18) (.var 11)))
            (.fin (.e (.lit 0) .nil))
            (.fin (.e (.lit 1) .nil)))))))
         (.fin (.e (.lit 0) .nil))))))))))))))
    (.fin (.e (.lit 0) .nil))))
   (.call 32 (.l (.var 1) (.l (.lit []) .nil)) 1
   (.ite (.eq (.var 10) (.lit 1))
    (.ite (.not (.eq (.var 9) (.var 5)))
     (.fin (.e (.lit 0) .nil))
     (.need [(.pre 57 (.l (.var 1) (.e (.lit 1) .nil)))]
     (.calll 57 (.l (.var 1) (.e (.lit 1) .nil)) [⟨(-9223372036854775808), 9223372036854775807⟩] [(⟨(-9223372036854775808), 9223372036854775807⟩, 9223372036854775807)]
     (.need [(.pre 58 (.l (.var 2) (.e (.lit 1) .nil)))]
     (.call 58 (.l (.var 2) (.e (.lit 1) .nil)) 1
     (.ite (.lt (.var 12) (.lit 0))
      (.fin (.e (.lit 0) .nil))
      (.ite (.not (.eq (.var 12) (.var 11)))
       (.fin (.e (.lit 0) .nil))
       (.call 36 (.e (.var 0) (.e (.var 1) .nil)) 2
       (.calll 56 (.e (.var 13) (.e (.var 14) .nil)) [⟨0, 1⟩, ⟨(-9223372036854775808), 9223372036854775807⟩] [(⟨(-9223372036854775808), 9223372036854775807⟩, 1099511627776)]
       (.ite (.eq (.var 15) (.lit 1))
        (.call 32 (.l (.lit []) (.l (.lit []) .nil)) 1
        (.ite (.eq (.var 17) (.lit 1))
         (.ite (.not (.eq (.var 16) (.var 5)))
          (.fin (.e (.lit 0) .nil))
          (.need [(.pre 58 (.l (.var 2) (.e (.lit 1) .nil)))]
          (.call 58 (.l (.var 2) (.e (.lit 1) .nil)) 1
          (.ite (.lt (.var 18) (.lit 0))
           (.fin (.e (.lit 0) .nil))
           (.ite (.not (.eq (.var 18) (.var 11)))
            (.fin (.e (.lit 0) .nil))
            (.fin (.e (.lit 1) .nil)))))))
         (.fin (.e (.lit 0) .nil))))
        (.call 32 (.l (.var 3) (.l (.lit []) .nil)) 1
        (.ite (.eq (.var 17) (.lit 1))
         (.ite (.not (.eq (.var 16) (.var 5)))
          (.fin (.e (.lit 0) .nil))
          (.need [(.pre 58 (.l (.var 2) (.e (.lit 1) .nil)))]
          (.call 58 (.l (.var 2) (.e (.lit 1) .nil)) 1
          (.ite (.lt (.var 18) (.lit 0))
           (.fin (.e (.lit 0) .nil))
           (.ite (.not (.eq (.var 18) (.var 11)))
            (.fin (.e (.lit 0) .nil))
            (.fin (.e (.lit 1) .nil)))))))
         (.fin (.e (.lit 0) .nil))))))))))))))
    (.fin (.e (.lit 0) .nil)))))))
  (.call 36 (.e (.var 0) (.e (.var 1) .nil)) 2
  (.calll 56 (.e (.var 6) (.e (.var 7) .nil)) [⟨0, 1⟩, ⟨(-9223372036854775808), 9223372036854775807⟩] [(⟨(-9223372036854775808), 9223372036854775807⟩, 1099511627776)]
  (.ite (.eq (.var 8) (.lit 1))
   (.call 32 (.l (.lit []) (.l (.var 0) .nil)) 1
   (.ite (.eq (.var 10) (.lit 1))
    (.ite (.not (.eq (.var 9) (.var 5)))
     (.fin (.e (.lit 0) .nil))
     (.need [(.pre 57 (.l (.lit []) (.e (.lit 1) .nil)))]
     (.calll 57 (.l (.lit []) (.e (.lit 1) .nil)) [⟨(-9223372036854775808), 9223372036854775807⟩] [(⟨(-9223372036854775808), 9223372036854775807⟩, 9223372036854775807)]
     (.need [(.pre 58 (.l (.lit []) (.e (.lit 1) .nil)))]
     (.call 58 (.l (.lit []) (.e (.lit 1) .nil)) 1
     (.ite (.lt (.var 12) (.lit 0))
      (.fin (.e (.lit 0) .nil))
      (.ite (.not (.eq (.var 12) (.var 11)))
       (.fin (.e (.lit 0) .nil))
       (.call 36 (.e (.var 0) (.e (.var 1) .nil)) 2
       (.calll 56 (.e (.var 13) (.e (.var 14) .nil)) [⟨0, 1⟩, ⟨(-9223372036854775808), 9223372036854775807⟩] [(⟨(-9223372036854775808), 9223372036854775807⟩, 1099511627776)]
       (.ite (.eq (.var 15) (.lit 1))
        (.call 32 (.l (.lit []) (.l (.var 0) .nil)) 1
        (.ite (.eq (.var 17) (.lit 1))
         (.ite (.not (.eq (.var 16) (.var 5)))
          (.fin (.e (.lit 0) .nil))
          (.need [(.pre 58 (.l (.lit []) (.e (.lit 1) .nil)))]
          (.call 58 (.l (.lit []) (.e (.lit 1) .nil)) 1
          (.ite (.lt (.var 18) (.lit 0))
           (.fin (.e (.lit 0) .nil))
           (.ite (.not (.eq (.var 18) (.var 11)))
            (.fin (.e (.lit 0) .nil))
            (.fin (.e (.lit 1) .nil)))))))
         (.fin (.e (.lit 0) .nil))))
        (.call 32 (.l (.var 3) (.l (.var 0) .nil)) 1
        (.ite (.eq (.var 17) (.lit 1))
         (.ite (.not (.eq (.var 16) (.var 5)))
          (.fin (.e (.lit 0) .nil))
          (.need [(.pre 58 (.l (.lit []) (.e (.lit 1) .nil)))]
          (.call 58 (.l (.lit []) (.e (.lit 1) .nil)) 1
          (.ite (.lt (.var 18) (.lit 0))
           (.fin (.e (.lit 0) .nil))
           (.ite (.not (.eq (.var 18) (.var 11)))
            (.fin (.e (.lit 0) .nil))
            (.fin (.e (.lit 1) .nil)))))))
         (.fin (.e (.lit 0) .nil))))))))))))))
    (.fin (.e (.lit 0) .nil))))
   (.call 32 (.l (.var 1) (.l (.var 0) .nil)) 1
   (.ite (.eq (.var 10) (.lit 1))
    (.ite (.not (.eq (.var 9) (.var 5)))
     (.fin (.e (.lit 0) .nil))
     (.need [(.pre 57 (.l (.var 1) (.e (.lit 1) .nil)))]
     (.calll 57 (.l (.var 1) (.e (.lit 1) .nil)) [⟨(-9223372036854775808), 9223372036854775807⟩] [(⟨(-9223372036854775808), 9223372036854775807⟩, 9223372036854775807)]
     (.need [(.pre 58 (.l (.var 2) (.e (.lit 1) .nil)))]
     (.call 58 (.l (.var 2) (.e (.lit 1) .nil)) 1
     (.ite (.lt (.var 12) (.lit 0))
      (.fin (.e (.lit 0) .nil))
      (.ite (.not (.eq (.var 12) (.var 11)))
       (.fin (.e (.lit 0) .nil))
       (.call 36 (.e (.var 0) (.e (.var 1) .nil)) 2
       (.calll 56 (.e (.var 13) (.e (.var 14) .nil)) [⟨0, 1⟩, ⟨(-9223372036854775808), 9223372036854775807⟩] [(⟨(-9223372036854775808), 9223372036854775807⟩, 1099511627776)]
       (.ite (.eq (.var 15) (.lit 1))
        (.call 32 (.l (.lit []) (.l (.var 0) .nil)) 1
        (.ite (.eq (.var 17) (.lit 1))
         (.ite (.not (.eq (.var 16) (.var 5)))
          (.fin (.e (.lit 0) .nil))
          (.need [(.pre 58 (.l (.var 2) (.e (.lit 1) .nil)))]
          (.call 58 (.l (.var 2) (.e (.lit 1) .nil)) 1
          (.ite (.lt (.var 18) (.lit 0))
           (.fin (.e (.lit 0) .nil))
           (.ite (.not (.eq (.var 18) (.var 11)))
            (.fin (.e (.lit 0) .nil))
            (.fin (.e (.lit 1) .nil)))))))
         (.fin (.e (.lit 0) .nil))))
        (.call 32 (.l (.var 3) (.l (.var 0) .nil)) 1
        (.ite (.eq (.var 17) (.lit 1))
         (.ite (.not (.eq (.var 16) (.var 5)))
          (.fin (.e (.lit 0) .nil))
          (.need [(.pre 58 (.l (.var 2) (.e (.lit 1) .nil)))]
          (.call 58 (.l (.var 2) (.e (.lit 1) .nil)) 1
          (.ite (.lt (.var 18) (.lit 0))
           (.fin (.e (.lit 0) .nil))
           (.ite (.not (.eq (.var 18) (.var 11)))
            (.fin (.e (.lit 0) .nil))
            (.fin (.e (.lit 1) .nil)))))))
         (.fin (.e (.lit 0) .nil))))))))))))))
    (.fin (.e (.lit 0) .nil))))))))))
theorem vc15 : vcOfI ⟨c15, []⟩ iv15 (parLvs s15.params) 250 Try.f15 s15 = t15 := by kernel_rfl
set_option linter.unusedVariables false in
def p15 (T : Tab) (I : Nat → Env → Env → Prop) (M : Nat → Env → Env → Nat) (pre : Nat → List Int → List (List Int) → Prop) (post : List Int → List (List Int) → Prop) (v0 v1 : Int) : Prop :=
 ∀ v2 v3 : Int, [v2, v3] = T.out 36 2 [v0, v1] →
 ∀ v4 v5 : Int, ∀ l0 : List Int, allHas [⟨0, 1⟩, ⟨(-9223372036854775808), 9223372036854775807⟩] [v4, v5] → allL [(⟨(-9223372036854775808), 9223372036854775807⟩, 1099511627776)] [l0] → ([v4, v5], [l0]) = T.fns 55 [v2, v3] [] →
 ((decide ((v4 : Int) = 1) = true →
  ∀ v6 v7 : Int, [v6, v7] = T.out 36 2 [v0, v1] →
  ∀ v8 v9 : Int, ∀ l1 : List Int, allHas [⟨0, 1⟩, ⟨(-9223372036854775808), 9223372036854775807⟩] [v8, v9] → allL [(⟨(-9223372036854775808), 9223372036854775807⟩, 1099511627776)] [l1] → ([v8, v9], [l1]) = T.fns 56 [v6, v7] [] →
  ((decide ((v8 : Int) = 1) = true →
   ∀ v10 : Int, [v10] = T.outL 32 1 [] [([] : List Int), ([] : List Int)] →
   ((decide ((v10 : Int) = 1) = true →
    (((!decide ((v9 : Int) = v5)) = true →
     post [0] []) ∧ ((!decide ((v9 : Int) = v5)) = false →
     ((pre 57 [1] [([] : List Int)]) ∧ ((pre 57 [1] [([] : List Int)]) →
     ∀ v11 : Int, ∀ l2 : List Int, allHas [⟨(-9223372036854775808), 9223372036854775807⟩] [v11] → allL [(⟨(-9223372036854775808), 9223372036854775807⟩, 9223372036854775807)] [l2] → ([v11], [l2]) = T.fns 57 [1] [([] : List Int)] →
     ((pre 58 [1] [([] : List Int)]) ∧ ((pre 58 [1] [([] : List Int)]) →
     ∀ v12 : Int, [v12] = T.outL 58 1 [1] [([] : List Int)] →
     ((decide ((v12 : Int) < 0) = true →
      post [0] []) ∧ (decide ((v12 : Int) < 0) = false →
      (((!decide ((v12 : Int) = v11)) = true →
       post [0] []) ∧ ((!decide ((v12 : Int) = v11)) = false →
       ∀ v13 v14 : Int, [v13, v14] = T.out 36 2 [v0, v1] →
       ∀ v15 v16 : Int, ∀ l3 : List Int, allHas [⟨0, 1⟩, ⟨(-9223372036854775808), 9223372036854775807⟩] [v15, v16] → allL [(⟨(-9223372036854775808), 9223372036854775807⟩, 1099511627776)] [l3] → ([v15, v16], [l3]) = T.fns 56 [v13, v14] [] →
       ((decide ((v15 : Int) = 1) = true →
        ∀ v17 : Int, [v17] = T.outL 32 1 [] [([] : List Int), ([] : List Int)] →
        ((decide ((v17 : Int) = 1) = true →
         (((!decide ((v16 : Int) = v5)) = true →
          post [0] []) ∧ ((!decide ((v16 : Int) = v5)) = false →
          ((pre 58 [1] [([] : List Int)]) ∧ ((pre 58 [1] [([] : List Int)]) →
          ∀ v18 : Int, [v18] = T.outL 58 1 [1] [([] : List Int)] →
          ((decide ((v18 : Int) < 0) = true →
           post [0] []) ∧ (decide ((v18 : Int) < 0) = false →
           (((!decide ((v18 : Int) = v11)) = true →
            post [0] []) ∧ ((!decide ((v18 : Int) = v11)) = false →
            post [1] []))))))))) ∧ (decide ((v17 : Int) = 1) = false →
         post [0] []))) ∧ (decide ((v15 : Int) = 1) = false →
        ∀ v17 : Int, [v17] = T.outL 32 1 [] [l3, ([] : List Int)] →
        ((decide ((v17 : Int) = 1) = true →
         (((!decide ((v16 : Int) = v5)) = true →
          post [0] []) ∧ ((!decide ((v16 : Int) = v5)) = false →
          ((pre 58 [1] [([] : List Int)]) ∧ ((pre 58 [1] [([] : List Int)]) →
          ∀ v18 : Int, [v18] = T.outL 58 1 [1] [([] : List Int)] →
          ((decide ((v18 : Int) < 0) = true →
           post [0] []) ∧ (decide ((v18 : Int) < 0) = false →
           (((!decide ((v18 : Int) = v11)) = true →
            post [0] []) ∧ ((!decide ((v18 : Int) = v11)) = false →
            post [1] []))))))))) ∧ (decide ((v17 : Int) = 1) = false →
         post [0] []))))))))))))))) ∧ (decide ((v10 : Int) = 1) = false →
    post [0] []))) ∧ (decide ((v8 : Int) = 1) = false →
   ∀ v10 : Int, [v10] = T.outL 32 1 [] [l1, ([] : List Int)] →
   ((decide ((v10 : Int) = 1) = true →
    (((!decide ((v9 : Int) = v5)) = true →
     post [0] []) ∧ ((!decide ((v9 : Int) = v5)) = false →
     ((pre 57 [1] [l1]) ∧ ((pre 57 [1] [l1]) →
     ∀ v11 : Int, ∀ l2 : List Int, allHas [⟨(-9223372036854775808), 9223372036854775807⟩] [v11] → allL [(⟨(-9223372036854775808), 9223372036854775807⟩, 9223372036854775807)] [l2] → ([v11], [l2]) = T.fns 57 [1] [l1] →
     ((pre 58 [1] [l2]) ∧ ((pre 58 [1] [l2]) →
     ∀ v12 : Int, [v12] = T.outL 58 1 [1] [l2] →
     ((decide ((v12 : Int) < 0) = true →
      post [0] []) ∧ (decide ((v12 : Int) < 0) = false →
      (((!decide ((v12 : Int) = v11)) = true →
       post [0] []) ∧ ((!decide ((v12 : Int) = v11)) = false →
       ∀ v13 v14 : Int, [v13, v14] = T.out 36 2 [v0, v1] →
       ∀ v15 v16 : Int, ∀ l3 : List Int, allHas [⟨0, 1⟩, ⟨(-9223372036854775808), 9223372036854775807⟩] [v15, v16] → allL [(⟨(-9223372036854775808), 9223372036854775807⟩, 1099511627776)] [l3] → ([v15, v16], [l3]) = T.fns 56 [v13, v14] [] →
       ((decide ((v15 : Int) = 1) = true →
        ∀ v17 : Int, [v17] = T.outL 32 1 [] [([] : List Int), ([] : List Int)] →
        ((decide ((v17 : Int) = 1) = true →
         (((!decide ((v16 : Int) = v5)) = true →
          post [0] []) ∧ ((!decide ((v16 : Int) = v5)) = false →
          ((pre 58 [1] [l2]) ∧ ((pre 58 [1] [l2]) →
          ∀ v18 : Int, [v18] = T.outL 58 1 [1] [l2] →
          ((decide ((v18 : Int) < 0) = true →
           post [0] []) ∧ (decide ((v18 : Int) < 0) = false →
           (((!decide ((v18 : Int) = v11)) = true →
            post [0] []) ∧ ((!decide ((v18 : Int) = v11)) = false →
            post [1] []))))))))) ∧ (decide ((v17 : Int) = 1) = false →
         post [0] []))) ∧ (decide ((v15 : Int) = 1) = false →
        ∀ v17 : Int, [v17] = T.outL 32 1 [] [l3, ([] : List Int)] →
        ((decide ((v17 : Int) = 1) = true →
         (((!decide ((v16 : Int) = v5)) = true →
          post [0] []) ∧ ((!decide ((v16 : Int) = v5)) = false →
          ((pre 58 [1] [l2]) ∧ ((pre 58 [1] [l2]) →
          ∀ v18 : Int, [v18] = T.outL 58 1 [1] [l2] →
          ((decide ((v18 : Int) < 0) = true →
           post [0] []) ∧ (decide ((v18 : Int) < 0) = false →
           (((!decide ((v18 : Int) = v11)) = true →
            post [0] []) ∧ ((!decide ((v18 : Int) = v11)) = false →
            post [1] []))))))))) ∧ (decide ((v17 : Int) = 1) = false →
         post [0] []))))))))))))))) ∧ (decide ((v10 : Int) = 1) = false →
    post [0] []))))) ∧ (decide ((v4 : Int) = 1) = false →
  ∀ v6 v7 : Int, [v6, v7] = T.out 36 2 [v0, v1] →
  ∀ v8 v9 : Int, ∀ l1 : List Int, allHas [⟨0, 1⟩, ⟨(-9223372036854775808), 9223372036854775807⟩] [v8, v9] → allL [(⟨(-9223372036854775808), 9223372036854775807⟩, 1099511627776)] [l1] → ([v8, v9], [l1]) = T.fns 56 [v6, v7] [] →
  ((decide ((v8 : Int) = 1) = true →
   ∀ v10 : Int, [v10] = T.outL 32 1 [] [([] : List Int), l0] →
   ((decide ((v10 : Int) = 1) = true →
    (((!decide ((v9 : Int) = v5)) = true →
     post [0] []) ∧ ((!decide ((v9 : Int) = v5)) = false →
     ((pre 57 [1] [([] : List Int)]) ∧ ((pre 57 [1] [([] : List Int)]) →
     ∀ v11 : Int, ∀ l2 : List Int, allHas [⟨(-9223372036854775808), 9223372036854775807⟩] [v11] → allL [(⟨(-9223372036854775808), 9223372036854775807⟩, 9223372036854775807)] [l2] → ([v11], [l2]) = T.fns 57 [1] [([] : List Int)] →
     ((pre 58 [1] [([] : List Int)]) ∧ ((pre 58 [1] [([] : List Int)]) →
     ∀ v12 : Int, [v12] = T.outL 58 1 [1] [([] : List Int)] →
     ((decide ((v12 : Int) < 0) = true →
      post [0] []) ∧ (decide ((v12 : Int) < 0) = false →
      (((!decide ((v12 : Int) = v11)) = true →
       post [0] []) ∧ ((!decide ((v12 : Int) = v11)) = false →
       ∀ v13 v14 : Int, [v13, v14] = T.out 36 2 [v0, v1] →
       ∀ v15 v16 : Int, ∀ l3 : List Int, allHas [⟨0, 1⟩, ⟨(-9223372036854775808), 9223372036854775807⟩] [v15, v16] → allL [(⟨(-9223372036854775808), 9223372036854775807⟩, 1099511627776)] [l3] → ([v15, v16], [l3]) = T.fns 56 [v13, v14] [] →
       ((decide ((v15 : Int) = 1) = true →
        ∀ v17 : Int, [v17] = T.outL 32 1 [] [([] : List Int), l0] →
        ((decide ((v17 : Int) = 1) = true →
         (((!decide ((v16 : Int) = v5)) = true →
          post [0] []) ∧ ((!decide ((v16 : Int) = v5)) = false →
          ((pre 58 [1] [([] : List Int)]) ∧ ((pre 58 [1] [([] : List Int)]) →
          ∀ v18 : Int, [v18] = T.outL 58 1 [1] [([] : List Int)] →
          ((decide ((v18 : Int) < 0) = true →
           post [0] []) ∧ (decide ((v18 : Int) < 0) = false →
           (((!decide ((v18 : Int) = v11)) = true →
            post [0] []) ∧ ((!decide ((v18 : Int) = v11)) = false →
            post [1] []))))))))) ∧ (decide ((v17 : Int) = 1) = false →
         post [0] []))) ∧ (decide ((v15 : Int) = 1) = false →
        ∀ v17 : Int, [v17] = T.outL 32 1 [] [l3, l0] →
        ((decide ((v17 : Int) = 1) = true →
         (((!decide ((v16 : Int) = v5)) = true →
          post [0] []) ∧ ((!decide ((v16 : Int) = v5)) = false →
          ((pre 58 [1] [([] : List Int)]) ∧ ((pre 58 [1] [([] : List Int)]) →
          ∀ v18 : Int, [v18] = T.outL 58 1 [1] [([] : List Int)] →
          ((decide ((v18 : Int) < 0) = true →
           post [0] []) ∧ (decide ((v18 : Int) < 0) = false →
           (((!decide ((v18 : Int) = v11)) = true →
            post [0] []) ∧ ((!decide ((v18 : Int) = v11)) = false →
            post [1] []))))))))) ∧ (decide ((v17 : Int) = 1) = false →
         post [0] []))))))))))))))) ∧ (decide ((v10 : Int) = 1) = false →
    post [0] []))) ∧ (decide ((v8 : Int) = 1) = false →
   ∀ v10 : Int, [v10] = T.outL 32 1 [] [l1, l0] →
   ((decide ((v10 : Int) = 1) = true →
    (((!decide ((v9 : Int) = v5)) = true →
     post [0] []) ∧ ((!decide ((v9 : Int) = v5)) = false →
     ((pre 57 [1] [l1]) ∧ ((pre 57 [1] [l1]) →
     ∀ v11 : Int, ∀ l2 : List Int, allHas [⟨(-9223372036854775808), 9223372036854775807⟩] [v11] → allL [(⟨(-9223372036854775808), 9223372036854775807⟩, 9223372036854775807)] [l2] → ([v11], [l2]) = T.fns 57 [1] [l1] →
     ((pre 58 [1] [l2]) ∧ ((pre 58 [1] [l2]) →
     ∀ v12 : Int, [v12] = T.outL 58 1 [1] [l2] →
     ((decide ((v12 : Int) < 0) = true →
      post [0] []) ∧ (decide ((v12 : Int) < 0) = false →
      (((!decide ((v12 : Int) = v11)) = true →
       post [0] []) ∧ ((!decide ((v12 : Int) = v11)) = false →
       ∀ v13 v14 : Int, [v13, v14] = T.out 36 2 [v0, v1] →
       ∀ v15 v16 : Int, ∀ l3 : List Int, allHas [⟨0, 1⟩, ⟨(-9223372036854775808), 9223372036854775807⟩] [v15, v16] → allL [(⟨(-9223372036854775808), 9223372036854775807⟩, 1099511627776)] [l3] → ([v15, v16], [l3]) = T.fns 56 [v13, v14] [] →
       ((decide ((v15 : Int) = 1) = true →
        ∀ v17 : Int, [v17] = T.outL 32 1 [] [([] : List Int), l0] →
        ((decide ((v17 : Int) = 1) = true →
         (((!decide ((v16 : Int) = v5)) = true →
          post [0] []) ∧ ((!decide ((v16 : Int) = v5)) = false →
          ((pre 58 [1] [l2]) ∧ ((pre 58 [1] [l2]) →
          ∀ v18 : Int, [v18] = T.outL 58 1 [1] [l2] →
          ((decide ((v18 : Int) < 0) = true →
           post [0] []) ∧ (decide ((v18 : Int) < 0) = false →
           (((!decide ((v18 : Int) = v11)) = true →
            post [0] []) ∧ ((!decide ((v18 : Int) = v11)) = false →
            post [1] []))))))))) ∧ (decide ((v17 : Int) = 1) = false →
         post [0] []))) ∧ (decide ((v15 : Int) = 1) = false →
        ∀ v17 : Int, [v17] = T.outL 32 1 [] [l3, l0] →
        ((decide ((v17 : Int) = 1) = true →
         (((!decide ((v16 : Int) = v5)) = true →
          post [0] []) ∧ ((!decide ((v16 : Int) = v5)) = false →
          ((pre 58 [1] [l2]) ∧ ((pre 58 [1] [l2]) →
          ∀ v18 : Int, [v18] = T.outL 58 1 [1] [l2] →
          ((decide ((v18 : Int) < 0) = true →
           post [0] []) ∧ (decide ((v18 : Int) < 0) = false →
           (((!decide ((v18 : Int) = v11)) = true →
            post [0] []) ∧ ((!decide ((v18 : Int) = v11)) = false →
            post [1] []))))))))) ∧ (decide ((v17 : Int) = 1) = false →
         post [0] []))))))))))))))) ∧ (decide ((v10 : Int) = 1) = false →
    post [0] []))))))
theorem q15 (T : Tab) (I : Nat → Env → Env → Prop) (M : Nat → Env → Env → Nat) (pre : Nat → List Int → List (List Int) → Prop) (post : List Int → List (List Int) → Prop) (v0 v1 : Int) : t15.plain T (presG pre I M) post ⟨[v0, v1], []⟩ = p15 T I M pre post v0 v1 := by kernel_rfl
theorem k15 (T : Tab) (I : Nat → Env → Env → Prop) (M : Nat → Env → Env → Nat) (pre : Nat → List Int → List (List Int) → Prop) (hs : SubSig T c15.sigs) (ht : TotG pre c15.sigs) (hg : T.sig 15 = some s15) (hC : CtAll Try.prog T.fns (presQ pre) c15.sigs) (hk : CpAll Try.prog c15.cps) (hlf : LfAll Try.prog T.fns (presQ pre) c15.lfs) (hwf : WfAll Try.prog T.fns (presQ pre) c15.wfs) (hi : ∀ xs ls, allHas (parIvs s15.params) xs → pre 15 xs ls → allHas iv15 xs)
    (h : ∀ (v0 v1 : Int), allHas iv15 [v0, v1] → allL (parLvs s15.params) [] → pre 15 [v0, v1] [] → p15 T I M pre (fun ys _ => ys = T.app 15 [v0, v1] []) v0 v1) : CT Try.prog T.fns (presQ pre) 15 s15 :=
  T.ctg (hlf := hlf) (hwf := hwf) (F := ⟨c15, []⟩) (fuel := 250) vc15 Try.checked.mixed hs ht hg hC hk Try.func15 I M (fun xs ls h1 h2 h3 => ⟨hi xs ls h1 h3, h2⟩) fun xs ls hx hl hp => by
    match xs, ls, hx, hl, hp with
    | [v0, v1], [], hx, hl, hp => rw [q15]; exact h v0 v1 hx hl hp
end Go.Proofs.Ytjpcmjgogdemoaa.Sx
