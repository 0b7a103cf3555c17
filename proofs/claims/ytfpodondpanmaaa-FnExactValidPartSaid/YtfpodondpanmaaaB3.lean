import Derived.Test.YtfpodondpanmaaaSxY
import Derived.Test.YtfpodondpanmaaaA1
import Derived.Test.YtfpodondpanmaaaB1
import Derived.Test.YtfpodondpanmaaaB2
import Derived.Test.YtfpodondpanmaaaChecked
import Derived.KernelRfl
namespace Go.Proofs.Ytfpodondpanmaaa.Sx
open Go Go.RowKit
/-- loop.example/g01242/laws.markInt64S -/
def s27 : WSig := ⟨[.i64], 2, [.i .i64], [(false, [.i .i64])], false⟩
noncomputable def c27 : Cfg := ⟨Try.prog, [], [], [], []⟩
def iv27 : List Iv := [⟨(-9223372036854775808), 9223372036854775807⟩]
def t27 : VC :=
 (.loop 1 [(.var 0), (.lit 0)] [(.var 0)] [⟨(-9223372036854775808), 9223372036854775807⟩, ⟨(-9223372036854775808), 9223372036854775807⟩] [(⟨(-9223372036854775808), 9223372036854775807⟩, 9223372036854775807)]
  (.need [(.b (.eq (.len (.var 0)) (.len (.var 1))))]
  (.ite (.lt (.var 2) (.len (.var 1)))
   (.need [(.b (.eq (.len (.var 0)) (.len (.var 1))))]
   (.need [(.b (.le (.lit 0) (.var 2))), (.b (.lt (.var 2) (.len (.var 1))))]
   (.need [(.b (.lt (.add (.lit 0) (.var 2)) (.len (.var 1))))]
   (.bind (.wrap .i64 (.add (.var 1) (.lit 1)))
   (.bind (.wrap .i64 (.add (.var 2) (.lit 1)))
   (.again 1 1 1 [⟨(-9223372036854775808), 9223372036854775807⟩, ⟨(-9223372036854775808), 9223372036854775807⟩] [(.var 3), (.var 4)] [(.set (.var 1) (.add (.lit 0) (.var 2)) (.var 1))]))))))
   (.need [(.b (.eq (.len (.var 1)) (.len (.var 0))))]
   (.fin (.e (.var 1) (.l (.var 1) .nil)))))))
def u27 : VC :=
 (.fin (.e (.var 0) (.l (.lit []) .nil)))
theorem vc27 : vcWf ⟨c27, [(2, ⟨1, [1, 5], [], [6, 7, 8, 9, 12, 13, 14, 15, 16, 17, 10, 11], [⟨(-9223372036854775808), 9223372036854775807⟩, ⟨(-9223372036854775808), 9223372036854775807⟩], [0], []⟩)]⟩ iv27 250 Try.f27 s27 true = t27 := by kernel_rfl
theorem vd27 : vcWf ⟨c27, [(2, ⟨1, [1, 5], [], [6, 7, 8, 9, 12, 13, 14, 15, 16, 17, 10, 11], [⟨(-9223372036854775808), 9223372036854775807⟩, ⟨(-9223372036854775808), 9223372036854775807⟩], [0], []⟩)]⟩ iv27 250 Try.f27 s27 false = u27 := by kernel_rfl
set_option linter.unusedVariables false in
def p27 (T : Tab) (I : Nat → Env → Env → Prop) (M : Nat → Env → Env → Nat) (pre : Nat → List Int → List (List Int) → Prop) (post : List Int → List (List Int) → Prop) (v0 : Int) (l0 : List Int) : Prop :=
 ((allHas [⟨(-9223372036854775808), 9223372036854775807⟩, ⟨(-9223372036854775808), 9223372036854775807⟩] [v0, 0] ∧ I 1 ⟨[v0], [l0]⟩ ⟨[v0, 0], [l0]⟩) ∧ ∀ v1 v2 : Int, ∀ l1 : List Int, allHas [⟨(-9223372036854775808), 9223372036854775807⟩, ⟨(-9223372036854775808), 9223372036854775807⟩] [v1, v2] → allL [(⟨(-9223372036854775808), 9223372036854775807⟩, 9223372036854775807)] [l1] → I 1 ⟨[v0], [l0]⟩ ⟨[v1, v2], [l1]⟩ →
  ((decide (((List.length l0 : Int) : Int) = (List.length l1 : Int)) = true) ∧ ((decide (((List.length l0 : Int) : Int) = (List.length l1 : Int)) = true) →
  ((decide ((v2 : Int) < (List.length l1 : Int)) = true →
   ((decide (((List.length l0 : Int) : Int) = (List.length l1 : Int)) = true) ∧ ((decide (((List.length l0 : Int) : Int) = (List.length l1 : Int)) = true) →
   ((decide ((0 : Int) ≤ v2) = true ∧ decide ((v2 : Int) < (List.length l1 : Int)) = true) ∧ ((decide ((0 : Int) ≤ v2) = true ∧ decide ((v2 : Int) < (List.length l1 : Int)) = true) →
   ((decide (((0 + v2) : Int) < (List.length l1 : Int)) = true) ∧ ((decide (((0 + v2) : Int) < (List.length l1 : Int)) = true) →
   ∀ v3 : Int, v3 = (IntKind.wrap .i64 (v1 + 1)) →
   ∀ v4 : Int, v4 = (IntKind.wrap .i64 (v2 + 1)) →
   (allHas [⟨(-9223372036854775808), 9223372036854775807⟩, ⟨(-9223372036854775808), 9223372036854775807⟩] [v3, v4] ∧ I 1 ⟨[v0], [l0]⟩ ⟨[v3, v4], [(List.set l1 (Int.toNat (0 + v2)) v1)]⟩ ∧ M 1 ⟨[v0], [l0]⟩ ⟨[v3, v4], [(List.set l1 (Int.toNat (0 + v2)) v1)]⟩ < M 1 ⟨[v0], [l0]⟩ ⟨[v1, v2], [l1]⟩)))))))) ∧ (decide ((v2 : Int) < (List.length l1 : Int)) = false →
   ((decide (((List.length l1 : Int) : Int) = (List.length l0 : Int)) = true) ∧ ((decide (((List.length l1 : Int) : Int) = (List.length l0 : Int)) = true) →
   post [v1] [l1])))))))
set_option linter.unusedVariables false in
def r27 (T : Tab) (I : Nat → Env → Env → Prop) (M : Nat → Env → Env → Nat) (pre : Nat → List Int → List (List Int) → Prop) (post : List Int → List (List Int) → Prop) (v0 : Int) : Prop :=
 post [v0] [([] : List Int)]
theorem q27 (T : Tab) (I : Nat → Env → Env → Prop) (M : Nat → Env → Env → Nat) (pre : Nat → List Int → List (List Int) → Prop) (post : List Int → List (List Int) → Prop) (v0 : Int) (l0 : List Int) : t27.plain T (presG pre I M) post ⟨[v0], [l0]⟩ = p27 T I M pre post v0 l0 := by kernel_rfl
theorem qn27 (T : Tab) (I : Nat → Env → Env → Prop) (M : Nat → Env → Env → Nat) (pre : Nat → List Int → List (List Int) → Prop) (post : List Int → List (List Int) → Prop) (v0 : Int) : u27.plain T (presG pre I M) post ⟨[v0], []⟩ = r27 T I M pre post v0 := by kernel_rfl
theorem k27 (T : Tab) (I : Nat → Env → Env → Prop) (M : Nat → Env → Env → Nat) (pre : Nat → List Int → List (List Int) → Prop) (hs : SubSig T c27.sigs) (ht : TotG pre c27.sigs) (hC : CtAll Try.prog T.fns (presQ pre) c27.sigs) (hk : CpAll Try.prog c27.cps) (hi : ∀ xs ls, allHas (parIvs s27.params) xs → pre 27 xs ls → allHas iv27 xs)
    (ho : ∀ (v0 : Int) (l0 : List Int), allHas iv27 [v0] → allL [s27.lv] [l0] → pre 27 [v0] [l0] → p27 T I M pre (fun ys zs => T.fns 27 [v0] [l0] = (ys, zs)) v0 l0)
    (hn : ∀ (v0 : Int), allHas iv27 [v0] → pre 27 [v0] [[]] → r27 T I M pre (fun ys zs => T.fns 27 [v0] [[]] = (ys, zs)) v0) : CTW Try.prog T.fns (presQ pre) 27 s27 :=
  T.ctw (F := ⟨c27, [(2, ⟨1, [1, 5], [], [6, 7, 8, 9, 12, 13, 14, 15, 16, 17, 10, 11], [⟨(-9223372036854775808), 9223372036854775807⟩, ⟨(-9223372036854775808), 9223372036854775807⟩], [0], []⟩)]⟩) (fuel := 250) vc27 vd27 Try.checked.mixed hs ht hC hk Try.func27 I M hi (fun xs l hx hl hp => by
    match xs, hx, hp with
    | [v0], hx, hp => rw [q27]; exact ho v0 l hx hl hp) fun xs hx hp => by
    match xs, hx, hp with
    | [v0], hx, hp => rw [qn27]; exact hn v0 hx hp
/-- loop.example/g01242/laws.heldInt64S -/
def s28 : Sig := ⟨[.lst [.i64], .val false [.i .i64]], [(false, [.i .i64])], false⟩
noncomputable def c28 : Cfg := ⟨Try.prog, [], [], [], []⟩
def iv28 : List Iv := [⟨(-9223372036854775808), 9223372036854775807⟩]
def t28 : VC :=
 (.loop 1 [(.var 0), (.lit 0)] [] [⟨(-9223372036854775808), 9223372036854775807⟩, ⟨(-9223372036854775808), 9223372036854775807⟩] []
  (.ite (.lt (.var 2) (.len (.var 0)))
   (.need [(.b (.le (.lit 0) (.var 2))), (.b (.lt (.var 2) (.len (.var 0))))]
   (.need [(.b (.lt (.add (.lit 0) (.var 2)) (.len (.var 0))))]
   (.bind (.at (.var 0) (.add (.lit 0) (.var 2)))
   (.ite (.not (.eq (.var 3) (.var 1)))
    (.fin (.e (.lit (-1)) .nil))
    (.bind (.wrap .i64 (.add (.var 1) (.lit 1)))
    (.bind (.wrap .i64 (.add (.var 2) (.lit 1)))
    (.again 1 1 1 [⟨(-9223372036854775808), 9223372036854775807⟩, ⟨(-9223372036854775808), 9223372036854775807⟩] [(.var 4), (.var 5)] [])))))))
   (.fin (.e (.var 1) .nil))))
theorem vc28 : vcOfI ⟨c28, [(2, ⟨1, [1, 5], [], [6, 7, 8, 9, 12, 13, 14, 15, 16, 17, 4, 18, 19, 10, 11], [⟨(-9223372036854775808), 9223372036854775807⟩, ⟨(-9223372036854775808), 9223372036854775807⟩], [], []⟩)]⟩ iv28 (parLvs s28.params) 250 Try.f28 s28 = t28 := by kernel_rfl
set_option linter.unusedVariables false in
def p28 (T : Tab) (I : Nat → Env → Env → Prop) (M : Nat → Env → Env → Nat) (pre : Nat → List Int → List (List Int) → Prop) (post : List Int → List (List Int) → Prop) (v0 : Int) (l0 : List Int) : Prop :=
 ((allHas [⟨(-9223372036854775808), 9223372036854775807⟩, ⟨(-9223372036854775808), 9223372036854775807⟩] [v0, 0] ∧ I 1 ⟨[v0], [l0]⟩ ⟨[v0, 0], []⟩) ∧ ∀ v1 v2 : Int, allHas [⟨(-9223372036854775808), 9223372036854775807⟩, ⟨(-9223372036854775808), 9223372036854775807⟩] [v1, v2] → I 1 ⟨[v0], [l0]⟩ ⟨[v1, v2], []⟩ →
  ((decide ((v2 : Int) < (List.length l0 : Int)) = true →
   ((decide ((0 : Int) ≤ v2) = true ∧ decide ((v2 : Int) < (List.length l0 : Int)) = true) ∧ ((decide ((0 : Int) ≤ v2) = true ∧ decide ((v2 : Int) < (List.length l0 : Int)) = true) →
   ((decide (((0 + v2) : Int) < (List.length l0 : Int)) = true) ∧ ((decide (((0 + v2) : Int) < (List.length l0 : Int)) = true) →
   ∀ v3 : Int, v3 = (List.getD l0 (Int.toNat (0 + v2)) 0) →
   (((!decide ((v3 : Int) = v1)) = true →
    post [(-1)] []) ∧ ((!decide ((v3 : Int) = v1)) = false →
    ∀ v4 : Int, v4 = (IntKind.wrap .i64 (v1 + 1)) →
    ∀ v5 : Int, v5 = (IntKind.wrap .i64 (v2 + 1)) →
    (allHas [⟨(-9223372036854775808), 9223372036854775807⟩, ⟨(-9223372036854775808), 9223372036854775807⟩] [v4, v5] ∧ I 1 ⟨[v0], [l0]⟩ ⟨[v4, v5], []⟩ ∧ M 1 ⟨[v0], [l0]⟩ ⟨[v4, v5], []⟩ < M 1 ⟨[v0], [l0]⟩ ⟨[v1, v2], []⟩)))))))) ∧ (decide ((v2 : Int) < (List.length l0 : Int)) = false →
   post [v1] [])))
theorem q28 (T : Tab) (I : Nat → Env → Env → Prop) (M : Nat → Env → Env → Nat) (pre : Nat → List Int → List (List Int) → Prop) (post : List Int → List (List Int) → Prop) (v0 : Int) (l0 : List Int) : t28.plain T (presG pre I M) post ⟨[v0], [l0]⟩ = p28 T I M pre post v0 l0 := by kernel_rfl
theorem k28 (T : Tab) (I : Nat → Env → Env → Prop) (M : Nat → Env → Env → Nat) (pre : Nat → List Int → List (List Int) → Prop) (hs : SubSig T c28.sigs) (ht : TotG pre c28.sigs) (hg : T.sig 28 = some s28) (hC : CtAll Try.prog T.fns (presQ pre) c28.sigs) (hk : CpAll Try.prog c28.cps) (hi : ∀ xs ls, allHas (parIvs s28.params) xs → pre 28 xs ls → allHas iv28 xs)
    (h : ∀ (v0 : Int) (l0 : List Int), allHas iv28 [v0] → allL (parLvs s28.params) [l0] → pre 28 [v0] [l0] → p28 T I M pre (fun ys _ => ys = T.app 28 [v0] [l0]) v0 l0) : CT Try.prog T.fns (presQ pre) 28 s28 :=
  T.ctg (F := ⟨c28, [(2, ⟨1, [1, 5], [], [6, 7, 8, 9, 12, 13, 14, 15, 16, 17, 4, 18, 19, 10, 11], [⟨(-9223372036854775808), 9223372036854775807⟩, ⟨(-9223372036854775808), 9223372036854775807⟩], [], []⟩)]⟩) (fuel := 250) vc28 Try.checked.mixed hs ht hg hC hk Try.func28 I M (fun xs ls h1 h2 h3 => ⟨hi xs ls h1 h3, h2⟩) fun xs ls hx hl hp => by
    match xs, ls, hx, hl, hp with
    | [v0], [l0], hx, hl, hp => rw [q28]; exact h v0 l0 hx hl hp
/-- loop.example/g01242/spec.l05Slope -/
def s51 : LSig := ⟨[.lst [.i64]], [.l false [[.i64]] [2]], false⟩
noncomputable def c51 : Cfg := ⟨Try.prog, [], [], [], []⟩
def iv51 : List Iv := []
def t51 : VC :=
 (.loop 1 [(.lit 1)] [(.lit [])] [⟨(-9223372036854775808), 9223372036854775807⟩] [(⟨(-9223372036854775808), 9223372036854775807⟩, 9223372036854775807)]
  (.ite (.lt (.var 0) (.len (.var 0)))
   (.need [(.b (.le (.lit 0) (.var 0))), (.b (.lt (.var 0) (.len (.var 0))))]
   (.need [(.b (.lt (.add (.lit 0) (.var 0)) (.len (.var 0))))]
   (.bind (.at (.var 0) (.add (.lit 0) (.var 0)))
   (.need [(.b (.le (.len (.cat (.var 1) (.one (.wrap .i64 (.mul (.var 0) (.var 1)))))) (.lit 1099511627776)))]
   (.bind (.wrap .i64 (.add (.var 0) (.lit 1)))
   (.need [(.b (.le (.len (.cat (.var 1) (.one (.wrap .i64 (.mul (.var 0) (.var 1)))))) (.lit 9223372036854775807)))]
   (.again 1 0 1 [⟨(-9223372036854775808), 9223372036854775807⟩] [(.var 2)] [(.cat (.var 1) (.one (.wrap .i64 (.mul (.var 0) (.var 1)))))])))))))
   (.need [(.b (.eq (.len (.var 1)) (.len (.var 1)))), (.b (.le (.len (.var 1)) (.lit 1099511627776)))]
   (.fin (.e (.lit 0) (.l (.var 1) .nil))))))
theorem vc51 : vcLf ⟨c51, [(3, ⟨1, [4], [], [6, 7, 8, 9, 12, 13, 14, 15, 16, 17, 18, 19, 20, 3, 10, 11], [⟨(-9223372036854775808), 9223372036854775807⟩], [1], [1]⟩)]⟩ iv51 (parLvs s51.params) 250 Try.f51 s51 = t51 := by kernel_rfl
set_option linter.unusedVariables false in
def p51 (T : Tab) (I : Nat → Env → Env → Prop) (M : Nat → Env → Env → Nat) (pre : Nat → List Int → List (List Int) → Prop) (post : List Int → List (List Int) → Prop) (l0 : List Int) : Prop :=
 ((allHas [⟨(-9223372036854775808), 9223372036854775807⟩] [1] ∧ I 1 ⟨[], [l0]⟩ ⟨[1], [([] : List Int)]⟩) ∧ ∀ v0 : Int, ∀ l1 : List Int, allHas [⟨(-9223372036854775808), 9223372036854775807⟩] [v0] → allL [(⟨(-9223372036854775808), 9223372036854775807⟩, 9223372036854775807)] [l1] → I 1 ⟨[], [l0]⟩ ⟨[v0], [l1]⟩ →
  ((decide ((v0 : Int) < (List.length l0 : Int)) = true →
   ((decide ((0 : Int) ≤ v0) = true ∧ decide ((v0 : Int) < (List.length l0 : Int)) = true) ∧ ((decide ((0 : Int) ≤ v0) = true ∧ decide ((v0 : Int) < (List.length l0 : Int)) = true) →
   ((decide (((0 + v0) : Int) < (List.length l0 : Int)) = true) ∧ ((decide (((0 + v0) : Int) < (List.length l0 : Int)) = true) →
   ∀ v1 : Int, v1 = (List.getD l0 (Int.toNat (0 + v0)) 0) →
   ((decide (((List.length (l1 ++ [(IntKind.wrap .i64 (v0 * v1))]) : Int) : Int) ≤ 1099511627776) = true) ∧ ((decide (((List.length (l1 ++ [(IntKind.wrap .i64 (v0 * v1))]) : Int) : Int) ≤ 1099511627776) = true) →
   ∀ v2 : Int, v2 = (IntKind.wrap .i64 (v0 + 1)) →
   ((decide (((List.length (l1 ++ [(IntKind.wrap .i64 (v0 * v1))]) : Int) : Int) ≤ 9223372036854775807) = true) ∧ ((decide (((List.length (l1 ++ [(IntKind.wrap .i64 (v0 * v1))]) : Int) : Int) ≤ 9223372036854775807) = true) →
   (allHas [⟨(-9223372036854775808), 9223372036854775807⟩] [v2] ∧ I 1 ⟨[], [l0]⟩ ⟨[v2], [(l1 ++ [(IntKind.wrap .i64 (v0 * v1))])]⟩ ∧ M 1 ⟨[], [l0]⟩ ⟨[v2], [(l1 ++ [(IntKind.wrap .i64 (v0 * v1))])]⟩ < M 1 ⟨[], [l0]⟩ ⟨[v0], [l1]⟩)))))))))) ∧ (decide ((v0 : Int) < (List.length l0 : Int)) = false →
   ((decide (((List.length l1 : Int) : Int) = (List.length l1 : Int)) = true ∧ decide (((List.length l1 : Int) : Int) ≤ 1099511627776) = true) ∧ ((decide (((List.length l1 : Int) : Int) = (List.length l1 : Int)) = true ∧ decide (((List.length l1 : Int) : Int) ≤ 1099511627776) = true) →
   post [0] [l1])))))
theorem q51 (T : Tab) (I : Nat → Env → Env → Prop) (M : Nat → Env → Env → Nat) (pre : Nat → List Int → List (List Int) → Prop) (post : List Int → List (List Int) → Prop) (l0 : List Int) : t51.plain T (presG pre I M) post ⟨[], [l0]⟩ = p51 T I M pre post l0 := by kernel_rfl
theorem k51 (T : Tab) (I : Nat → Env → Env → Prop) (M : Nat → Env → Env → Nat) (pre : Nat → List Int → List (List Int) → Prop) (hs : SubSig T c51.sigs) (ht : TotG pre c51.sigs) (hC : CtAll Try.prog T.fns (presQ pre) c51.sigs) (hk : CpAll Try.prog c51.cps) (hi : ∀ xs ls, allHas (parIvs s51.params) xs → pre 51 xs ls → allHas iv51 xs)
    (h : ∀ (l0 : List Int), allHas iv51 [] → allL (parLvs s51.params) [l0] → pre 51 [] [l0] → p51 T I M pre (fun ys zs => T.fns 51 [] [l0] = (ys, zs)) l0) : CTL Try.prog T.fns (presQ pre) 51 s51 :=
  T.ctl (F := ⟨c51, [(3, ⟨1, [4], [], [6, 7, 8, 9, 12, 13, 14, 15, 16, 17, 18, 19, 20, 3, 10, 11], [⟨(-9223372036854775808), 9223372036854775807⟩], [1], [1]⟩)]⟩) (fuel := 250) vc51 Try.checked.mixed hs ht hC hk Try.func51 I M (fun xs ls h1 h2 h3 => ⟨hi xs ls h1 h3, h2⟩) fun xs ls hx hl hp => by
    match xs, ls, hx, hl, hp with
    | [], [l0], hx, hl, hp => rw [q51]; exact h l0 hx hl hp
/-- loop.example/g01242/spec.SlopeOf -/
def s25 : LSig := ⟨[.lst [.i64]], [.l false [[.i64]] [2], .n false [.i .i64]], true⟩
noncomputable def c25 : Cfg := ⟨Try.prog, [(43, s43)], [], [(51, s51)], []⟩
def iv25 : List Iv := []
def t25 : VC :=
 (.call 43 (.l (.var 0) .nil) 1
 (.ite (.not (.eq (.var 0) (.lit 1)))
  (.need []
  (.fin (.e (.lit 0) (.e (.lit 1) (.l (.lit []) .nil)))))
  (.need [(.pre 51 (.l (.var 0) .nil))]
  (.calll 51 (.l (.var 0) .nil) [⟨0, 1⟩] [(⟨(-9223372036854775808), 9223372036854775807⟩, 1099511627776)]
  (.ite (.eq (.var 1) (.lit 1))
   (.fin (.e (.lit 1) (.e (.lit 0) (.l (.lit []) .nil))))
   (.need [(.b (.eq (.len (.var 1)) (.len (.var 1))))]
   (.fin (.e (.lit 0) (.e (.lit 0) (.l (.var 1) .nil))))))))))
theorem vc25 : vcLf ⟨c25, []⟩ iv25 (parLvs s25.params) 250 Try.f25 s25 = t25 := by kernel_rfl
set_option linter.unusedVariables false in
def p25 (T : Tab) (I : Nat → Env → Env → Prop) (M : Nat → Env → Env → Nat) (pre : Nat → List Int → List (List Int) → Prop) (post : List Int → List (List Int) → Prop) (l0 : List Int) : Prop :=
 ∀ v0 : Int, [v0] = T.outL 43 1 [] [l0] →
 (((!decide ((v0 : Int) = 1)) = true →
  ((True) ∧ ((True) →
  post [0, 1] [([] : List Int)]))) ∧ ((!decide ((v0 : Int) = 1)) = false →
  ((pre 51 [] [l0]) ∧ ((pre 51 [] [l0]) →
  ∀ v1 : Int, ∀ l1 : List Int, allHas [⟨0, 1⟩] [v1] → allL [(⟨(-9223372036854775808), 9223372036854775807⟩, 1099511627776)] [l1] → ([v1], [l1]) = T.fns 51 [] [l0] →
  ((decide ((v1 : Int) = 1) = true →
   post [1, 0] [([] : List Int)]) ∧ (decide ((v1 : Int) = 1) = false →
   ((decide (((List.length l1 : Int) : Int) = (List.length l1 : Int)) = true) ∧ ((decide (((List.length l1 : Int) : Int) = (List.length l1 : Int)) = true) →
   post [0, 0] [l1]))))))))
theorem q25 (T : Tab) (I : Nat → Env → Env → Prop) (M : Nat → Env → Env → Nat) (pre : Nat → List Int → List (List Int) → Prop) (post : List Int → List (List Int) → Prop) (l0 : List Int) : t25.plain T (presG pre I M) post ⟨[], [l0]⟩ = p25 T I M pre post l0 := by kernel_rfl
theorem k25 (T : Tab) (I : Nat → Env → Env → Prop) (M : Nat → Env → Env → Nat) (pre : Nat → List Int → List (List Int) → Prop) (hs : SubSig T c25.sigs) (ht : TotG pre c25.sigs) (hC : CtAll Try.prog T.fns (presQ pre) c25.sigs) (hk : CpAll Try.prog c25.cps) (hlf : LfAll Try.prog T.fns (presQ pre) c25.lfs) (hi : ∀ xs ls, allHas (parIvs s25.params) xs → pre 25 xs ls → allHas iv25 xs)
    (h : ∀ (l0 : List Int), allHas iv25 [] → allL (parLvs s25.params) [l0] → pre 25 [] [l0] → p25 T I M pre (fun ys zs => T.fns 25 [] [l0] = (ys, zs)) l0) : CTL Try.prog T.fns (presQ pre) 25 s25 :=
  T.ctl (hlf := hlf) (F := ⟨c25, []⟩) (fuel := 250) vc25 Try.checked.mixed hs ht hC hk Try.func25 I M (fun xs ls h1 h2 h3 => ⟨hi xs ls h1 h3, h2⟩) fun xs ls hx hl hp => by
    match xs, ls, hx, hl, hp with
    | [], [l0], hx, hl, hp => rw [q25]; exact h l0 hx hl hp
/-- loop.example/g01242/impl.SlopeOf -/
def s26 : LSig := ⟨[.lst [.i64]], [.l false [[.i64]] [2], .n false [.i .i64]], true⟩
noncomputable def c26 : Cfg := ⟨Try.prog, [(15, s15)], [], [], []⟩
def iv26 : List Iv := []
def t26 : VC :=
 (.call 15 (.l (.var 0) .nil) 1
 (.ite (.not (.eq (.var 0) (.lit 1)))
  (.fin (.e (.lit 1) (.e (.lit 1) (.l (.lit []) .nil))))
  (.need [(.b (.le (.lit 0) (.sub (.len (.var 0)) (.lit 1)))), (.b (.le (.sub (.len (.var 0)) (.lit 1)) (.sub (.len (.var 0)) (.lit 1)))), (.b (.le (.sub (.len (.var 0)) (.lit 1)) (.lit 1099511627776)))]
  (.loop 1 [(.lit 0)] [(.zeros (.mul (.sub (.len (.var 0)) (.lit 1)) (.lit 1)))] [⟨(-9223372036854775808), 9223372036854775807⟩] [(⟨(-9223372036854775808), 9223372036854775807⟩, 9223372036854775807)]
   (.ite (.lt (.var 1) (.len (.zeros (.mul (.sub (.len (.var 0)) (.lit 1)) (.lit 1)))))
    (.need [(.b (.eq (.len (.zeros (.mul (.sub (.len (.var 0)) (.lit 1)) (.lit 1)))) (.len (.var 1))))]
    (.need [(.b (.le (.lit 0) (.wrap .i64 (.add (.var 1) (.lit 1))))), (.b (.lt (.wrap .i64 (.add (.var 1) (.lit 1))) (.len (.var 0))))]
    (.need [(.b (.lt (.add (.lit 0) (.wrap .i64 (.add (.var 1) (.lit 1)))) (.len (.var 0))))]
    (.bind (.at (.var 0) (.add (.lit 0) (.wrap .i64 (.add (.var 1) (.lit 1)))))
    (.need [(.b (.le (.lit 0) (.var 1))), (.b (.lt (.var 1) (.len (.var 1))))]
    (.need [(.b (.lt (.add (.lit 0) (.var 1)) (.len (.var 1))))]
    (.again 1 1 1 [⟨(-9223372036854775808), 9223372036854775807⟩] [(.wrap .i64 (.add (.var 1) (.lit 1)))] [(.set (.var 1) (.add (.lit 0) (.var 1)) (.wrap .i64 (.mul (.wrap .i64 (.add (.var 1) (.lit 1))) (.var 2))))])))))))
    (.need [(.b (.eq (.len (.zeros (.mul (.sub (.len (.var 0)) (.lit 1)) (.lit 1)))) (.len (.var 1))))]
    (.need [(.b (.eq (.len (.var 1)) (.len (.var 1)))), (.b (.le (.len (.var 1)) (.lit 1099511627776)))]
    (.fin (.e (.lit 0) (.e (.lit 0) (.l (.var 1) .nil)))))))))))
theorem vc26 : vcLf ⟨c26, [(5, ⟨1, [15], [], [16, 17, 5, 18, 19, 20, 21, 22, 23, 24, 25, 26, 27, 28, 29], [⟨(-9223372036854775808), 9223372036854775807⟩], [1], []⟩)]⟩ iv26 (parLvs s26.params) 250 Try.f26 s26 = t26 := by kernel_rfl
set_option linter.unusedVariables false in
def p26 (T : Tab) (I : Nat → Env → Env → Prop) (M : Nat → Env → Env → Nat) (pre : Nat → List Int → List (List Int) → Prop) (post : List Int → List (List Int) → Prop) (l0 : List Int) : Prop :=
 ∀ v0 : Int, [v0] = T.outL 15 1 [] [l0] →
 (((!decide ((v0 : Int) = 1)) = true →
  post [1, 1] [([] : List Int)]) ∧ ((!decide ((v0 : Int) = 1)) = false →
  ((decide ((0 : Int) ≤ ((List.length l0 : Int) - 1)) = true ∧ decide ((((List.length l0 : Int) - 1) : Int) ≤ ((List.length l0 : Int) - 1)) = true ∧ decide ((((List.length l0 : Int) - 1) : Int) ≤ 1099511627776) = true) ∧ ((decide ((0 : Int) ≤ ((List.length l0 : Int) - 1)) = true ∧ decide ((((List.length l0 : Int) - 1) : Int) ≤ ((List.length l0 : Int) - 1)) = true ∧ decide ((((List.length l0 : Int) - 1) : Int) ≤ 1099511627776) = true) →
  ((allHas [⟨(-9223372036854775808), 9223372036854775807⟩] [0] ∧ I 1 ⟨[v0], [l0]⟩ ⟨[0], [(List.replicate (Int.toNat (((List.length l0 : Int) - 1) * 1)) (0 : Int))]⟩) ∧ ∀ v1 : Int, ∀ l1 : List Int, allHas [⟨(-9223372036854775808), 9223372036854775807⟩] [v1] → allL [(⟨(-9223372036854775808), 9223372036854775807⟩, 9223372036854775807)] [l1] → I 1 ⟨[v0], [l0]⟩ ⟨[v1], [l1]⟩ →
   ((decide ((v1 : Int) < (List.length (List.replicate (Int.toNat (((List.length l0 : Int) - 1) * 1)) (0 : Int)) : Int)) = true →
    ((decide (((List.length (List.replicate (Int.toNat (((List.length l0 : Int) - 1) * 1)) (0 : Int)) : Int) : Int) = (List.length l1 : Int)) = true) ∧ ((decide (((List.length (List.replicate (Int.toNat (((List.length l0 : Int) - 1) * 1)) (0 : Int)) : Int) : Int) = (List.length l1 : Int)) = true) →
    ((decide ((0 : Int) ≤ (IntKind.wrap .i64 (v1 + 1))) = true ∧ decide (((IntKind.wrap .i64 (v1 + 1)) : Int) < (List.length l0 : Int)) = true) ∧ ((decide ((0 : Int) ≤ (IntKind.wrap .i64 (v1 + 1))) = true ∧ decide (((IntKind.wrap .i64 (v1 + 1)) : Int) < (List.length l0 : Int)) = true) →
    ((decide (((0 + (IntKind.wrap .i64 (v1 + 1))) : Int) < (List.length l0 : Int)) = true) ∧ ((decide (((0 + (IntKind.wrap .i64 (v1 + 1))) : Int) < (List.length l0 : Int)) = true) →
    ∀ v2 : Int, v2 = (List.getD l0 (Int.toNat (0 + (IntKind.wrap .i64 (v1 + 1)))) 0) →
    ((decide ((0 : Int) ≤ v1) = true ∧ decide ((v1 : Int) < (List.length l1 : Int)) = true) ∧ ((decide ((0 : Int) ≤ v1) = true ∧ decide ((v1 : Int) < (List.length l1 : Int)) = true) →
    ((decide (((0 + v1) : Int) < (List.length l1 : Int)) = true) ∧ ((decide (((0 + v1) : Int) < (List.length l1 : Int)) = true) →
    (allHas [⟨(-9223372036854775808), 9223372036854775807⟩] [(IntKind.wrap .i64 (v1 + 1))] ∧ I 1 ⟨[v0], [l0]⟩ ⟨[(IntKind.wrap .i64 (v1 + 1))], [(List.set l1 (Int.toNat (0 + v1)) (IntKind.wrap .i64 ((IntKind.wrap .i64 (v1 + 1)) * v2)))]⟩ ∧ M 1 ⟨[v0], [l0]⟩ ⟨[(IntKind.wrap .i64 (v1 + 1))], [(List.set l1 (Int.toNat (0 + v1)) (IntKind.wrap .i64 ((IntKind.wrap .i64 (v1 + 1)) * v2)))]⟩ < M 1 ⟨[v0], [l0]⟩ ⟨[v1], [l1]⟩)))))))))))) ∧ (decide ((v1 : Int) < (List.length (List.replicate (Int.toNat (((List.length l0 : Int) - 1) * 1)) (0 : Int)) : Int)) = false →
    ((decide (((List.length (List.replicate (Int.toNat (((List.length l0 : Int) - 1) * 1)) (0 : Int)) : Int) : Int) = (List.length l1 : Int)) = true) ∧ ((decide (((List.length (List.replicate (Int.toNat (((List.length l0 : Int) - 1) * 1)) (0 : Int)) : Int) : Int) = (List.length l1 : Int)) = true) →
    ((decide (((List.length l1 : Int) : Int) = (List.length l1 : Int)) = true ∧ decide (((List.length l1 : Int) : Int) ≤ 1099511627776) = true) ∧ ((decide (((List.length l1 : Int) : Int) = (List.length l1 : Int)) = true ∧ decide (((List.length l1 : Int) : Int) ≤ 1099511627776) = true) →
    post [0, 0] [l1])))))))))))
theorem q26 (T : Tab) (I : Nat → Env → Env → Prop) (M : Nat → Env → Env → Nat) (pre : Nat → List Int → List (List Int) → Prop) (post : List Int → List (List Int) → Prop) (l0 : List Int) : t26.plain T (presG pre I M) post ⟨[], [l0]⟩ = p26 T I M pre post l0 := by kernel_rfl
theorem k26 (T : Tab) (I : Nat → Env → Env → Prop) (M : Nat → Env → Env → Nat) (pre : Nat → List Int → List (List Int) → Prop) (hs : SubSig T c26.sigs) (ht : TotG pre c26.sigs) (hC : CtAll Try.prog T.fns (presQ pre) c26.sigs) (hk : CpAll Try.prog c26.cps) (hi : ∀ xs ls, allHas (parIvs s26.params) xs → pre 26 xs ls → allHas iv26 xs)
    (h : ∀ (l0 : List Int), allHas iv26 [] → allL (parLvs s26.params) [l0] → pre 26 [] [l0] → p26 T I M pre (fun ys zs => T.fns 26 [] [l0] = (ys, zs)) l0) : CTL Try.prog T.fns (presQ pre) 26 s26 :=
  T.ctl (F := ⟨c26, [(5, ⟨1, [15], [], [16, 17, 5, 18, 19, 20, 21, 22, 23, 24, 25, 26, 27, 28, 29], [⟨(-9223372036854775808), 9223372036854775807⟩], [1], []⟩)]⟩) (fuel := 250) vc26 Try.checked.mixed hs ht hC hk Try.func26 I M (fun xs ls h1 h2 h3 => ⟨hi xs ls h1 h3, h2⟩) fun xs ls hx hl hp => by
    match xs, ls, hx, hl, hp with
    | [], [l0], hx, hl, hp => rw [q26]; exact h l0 hx hl hp
/-- loop.example/g01242/laws.FnExactSlopeOf -/
def s7 : Sig := ⟨[.lst [.i64]], [(false, [.b])], true⟩
noncomputable def c7 : Cfg := ⟨Try.prog, [(16, s16), (28, s28)], [(14, s14, y14)], [(25, s25), (26, s26)], [(27, s27)]⟩
def iv7 : List Iv := []
def t7 : VC :=
 (.ite (.lt (.lit 1048576) (.len (.var 0)))
  (.fin (.e (.lit 1) .nil))
  (.need [(.b (.le (.len (.var 0)) (.lit 1099511627776)))]
  (.calll 25 (.l (.var 0) .nil) [⟨0, 1⟩, ⟨(-9223372036854775808), 9223372036854775807⟩] [(⟨(-9223372036854775808), 9223372036854775807⟩, 1099511627776)]
  (.ite (.eq (.var 0) (.lit 1))
   (.need [(.b (.le (.len (.var 0)) (.lit 1099511627776)))]
   (.calll 26 (.l (.var 0) .nil) [⟨0, 1⟩, ⟨(-9223372036854775808), 9223372036854775807⟩] [(⟨(-9223372036854775808), 9223372036854775807⟩, 1099511627776)]
   (.ite (.eq (.var 2) (.lit 1))
    (.call 16 (.l (.lit []) (.l (.lit []) .nil)) 1
    (.ite (.eq (.var 4) (.lit 1))
     (.ite (.not (.eq (.var 3) (.var 1)))
      (.fin (.e (.lit 0) .nil))
      (.need [(.b (.le (.len (.var 0)) (.lit 1099511627776)))]
      (.call 16 (.l (.var 0) (.l (.var 0) .nil)) 1
      (.ite (.not (.eq (.var 5) (.lit 1)))
       (.fin (.e (.lit 0) .nil))
       (.need [(.pre 27 (.l (.var 0) (.e (.lit 1) .nil)))]
       (.calll 27 (.l (.var 0) (.e (.lit 1) .nil)) [⟨(-9223372036854775808), 9223372036854775807⟩] [(⟨(-9223372036854775808), 9223372036854775807⟩, 9223372036854775807)]
       (.ite (.le (.lit 0) (.var 6))
        (.call 16 (.l (.lit []) (.l (.lit []) .nil)) 1
        (.ite (.eq (.var 7) (.lit 1))
         (.need [(.pre 27 (.l (.lit []) (.e (.lit 1) .nil)))]
         (.calll 27 (.l (.lit []) (.e (.lit 1) .nil)) [⟨(-9223372036854775808), 9223372036854775807⟩] [(⟨(-9223372036854775808), 9223372036854775807⟩, 9223372036854775807)]
         (.need [(.pre 28 (.l (.lit []) (.e (.lit 1) .nil)))]
         (.call 28 (.l (.lit []) (.e (.lit 1) .nil)) 1
         (.ite (.lt (.var 9) (.lit 0))
          (.fin (.e (.lit 0) .nil))
          (.ite (.not (.eq (.var 9) (.var 8)))
           (.fin (.e (.lit 0) .nil))
           (.need [(.b (.le (.len (.var 0)) (.lit 1099511627776)))]
           (.calll 26 (.l (.var 0) .nil) [⟨0, 1⟩, ⟨(-9223372036854775808), 9223372036854775807⟩] [(⟨(-9223372036854775808), 9223372036854775807⟩, 1099511627776)]
           (.ite (.eq (.var 10) (.lit 1))
            (.call 16 (.l (.lit []) (.l (.lit []) .nil)) 1
            (.ite (.eq (.var 12) (.lit 1))
             (.ite (.not (.eq (.var 11) (.var 1)))
              (.fin (.e (.lit 0) .nil))
              (.need [(.pre 28 (.l (.lit []) (.e (.lit 1) .nil)))]
              (.call 28 (.l (.lit []) (.e (.lit 1) .nil)) 1
              (.ite (.lt (.var 13) (.lit 0))
               (.fin (.e (.lit 0) .nil))
               (.ite (.not (.eq (.var 13) (.var 8)))
                (.fin (.e (.lit 0) .nil))
                (.fin (.e (.lit 1) .nil)))))))
             (.fin (.e (.lit 0) .nil))))
            (.call 16 (.l (.var 5) (.l (.lit []) .nil)) 1
            (.ite (.eq (.var 12) (.lit 1))
             (.ite (.not (.eq (.var 11) (.var 1)))
              (.fin (.e (.lit 0) .nil))
              (.need [(.pre 28 (.l (.lit []) (.e (.lit 1) .nil)))]
              (.call 28 (.l (.lit []) (.e (.lit 1) .nil)) 1
              (.ite (.lt (.var 13) (.lit 0))
               (.fin (.e (.lit 0) .nil))
               (.ite (.not (.eq (.var 13) (.var 8)))
                (.fin (.e (.lit 0) .nil))
                (.fin (.e (.lit 1) .nil)))))))
             (.fin (.e (.lit 0) .nil)))))))))))))
         (.fin (.e (.lit 0) .nil))))
        (.fin (.e (.lit 0) .nil)))))))))
     (.fin (.e (.lit 0) .nil))))
    (.call 16 (.l (.var 2) (.l (.lit []) .nil)) 1
    (.ite (.eq (.var 4) (.lit 1))
     (.ite (.not (.eq (.var 3) (.var 1)))
      (.fin (.e (.lit 0) .nil))
      (.need [(.b (.le (.len (.var 0)) (.lit 1099511627776)))]
      (.call 16 (.l (.var 0) (.l (.var 0) .nil)) 1
      (.ite (.not (.eq (.var 5) (.lit 1)))
       (.fin (.e (.lit 0) .nil))
       (.need [(.pre 27 (.l (.var 0) (.e (.lit 1) .nil)))]
       (.calll 27 (.l (.var 0) (.e (.lit 1) .nil)) [⟨(-9223372036854775808), 9223372036854775807⟩] [(⟨(-9223372036854775808), 9223372036854775807⟩, 9223372036854775807)]
       (.ite (.le (.lit 0) (.var 6))
        (.call 16 (.l (.var 2) (.l (.lit []) .nil)) 1
        (.ite (.eq (.var 7) (.lit 1))
         (.need [(.pre 27 (.l (.var 2) (.e (.lit 1) .nil)))]
         (.calll 27 (.l (.var 2) (.e (.lit 1) .nil)) [⟨(-9223372036854775808), 9223372036854775807⟩] [(⟨(-9223372036854775808), 9223372036854775807⟩, 9223372036854775807)]
         (.need [(.pre 28 (.l (.var 4) (.e (.lit 1) .nil)))]
         (.call 28 (.l (.var 4) (.e (.lit 1) .nil)) 1
         (.ite (.lt (.var 9) (.lit 0))
          (.fin (.e (.lit 0) .nil))
          (.ite (.not (.eq (.var 9) (.var 8)))
           (.fin (.e (.lit 0) .nil))
           (.need [(.b (.le (.len (.var 0)) (.lit 1099511627776)))]
           (.calll 26 (.l (.var 0) .nil) [⟨0, 1⟩, ⟨(-9223372036854775808), 9223372036854775807⟩] [(⟨(-9223372036854775808), 9223372036854775807⟩, 1099511627776)]
           (.ite (.eq (.var 10) (.lit 1))
            (.call 16 (.l (.lit []) (.l (.lit []) .nil)) 1
            (.ite (.eq (.var 12) (.lit 1))
             (.ite (.not (.eq (.var 11) (.var 1)))
              (.fin (.e (.lit 0) .nil))
              (.need [(.pre 28 (.l (.var 4) (.e (.lit 1) .nil)))]
              (.call 28 (.l (.var 4) (.e (.lit 1) .nil)) 1
              (.ite (.lt (.var 13) (.lit 0))
               (.fin (.e (.lit 0) .nil))
               (.ite (.not (.eq (.var 13) (.var 8)))
                (.fin (.e (.lit 0) .nil))
                (.fin (.e (.lit 1) .nil)))))))
             (.fin (.e (.lit 0) .nil))))
            (.call 16 (.l (.var 5) (.l (.lit []) .nil)) 1
            (.ite (.eq (.var 12) (.lit 1))
             (.ite (.not (.eq (.var 11) (.var 1)))
              (.fin (.e (.lit 0) .nil))
              (.need [(.pre 28 (.l (.var 4) (.e (.lit 1) .nil)))]
              (.call 28 (.l (.var 4) (.e (.lit 1) .nil)) 1
              (.ite (.lt (.var 13) (.lit 0))
               (.fin (.e (.lit 0) .nil))
               (.ite (.not (.eq (.var 13) (.var 8)))
                (.fin (.e (.lit 0) .nil))
                (.fin (.e (.lit 1) .nil)))))))
             (.fin (.e (.lit 0) .nil)))))))))))))
         (.fin (.e (.lit 0) .nil))))
        (.fin (.e (.lit 0) .nil)))))))))
     (.fin (.e (.lit 0) .nil)))))))
   (.need [(.b (.le (.len (.var 0)) (.lit 1099511627776)))]
   (.calll 26 (.l (.var 0) .nil) [⟨0, 1⟩, ⟨(-9223372036854775808), 9223372036854775807⟩] [(⟨(-9223372036854775808), 9223372036854775807⟩, 1099511627776)]
   (.ite (.eq (.var 2) (.lit 1))
    (.call 16 (.l (.lit []) (.l (.var 1) .nil)) 1
    (.ite (.eq (.var 4) (.lit 1))
     (.ite (.not (.eq (.var 3) (.var 1)))
      (.fin (.e (.lit 0) .nil))
      (.need [(.b (.le (.len (.var 0)) (.lit 1099511627776)))]
      (.call 16 (.l (.var 0) (.l (.var 0) .nil)) 1
      (.ite (.not (.eq (.var 5) (.lit 1)))
       (.fin (.e (.lit 0) .nil))
       (.need [(.pre 27 (.l (.var 0) (.e (.lit 1) .nil)))]
       (.calll 27 (.l (.var 0) (.e (.lit 1) .nil)) [⟨(-9223372036854775808), 9223372036854775807⟩] [(⟨(-9223372036854775808), 9223372036854775807⟩, 9223372036854775807)]
       (.ite (.le (.lit 0) (.var 6))
        (.call 16 (.l (.lit []) (.l (.var 1) .nil)) 1
        (.ite (.eq (.var 7) (.lit 1))
         (.need [(.pre 27 (.l (.lit []) (.e (.lit 1) .nil)))]
         (.calll 27 (.l (.lit []) (.e (.lit 1) .nil)) [⟨(-9223372036854775808), 9223372036854775807⟩] [(⟨(-9223372036854775808), 9223372036854775807⟩, 9223372036854775807)]
         (.need [(.pre 28 (.l (.lit []) (.e (.lit 1) .nil)))]
         (.call 28 (.l (.lit []) (.e (.lit 1) .nil)) 1
         (.ite (.lt (.var 9) (.lit 0))
          (.fin (.e (.lit 0) .nil))
          (.ite (.not (.eq (.var 9) (.var 8)))
           (.fin (.e (.lit 0) .nil))
           (.need [(.b (.le (.len (.var 0)) (.lit 1099511627776)))]
           (.calll 26 (.l (.var 0) .nil) [⟨0, 1⟩, ⟨(-9223372036854775808), 9223372036854775807⟩] [(⟨(-9223372036854775808), 9223372036854775807⟩, 1099511627776)]
           (.ite (.eq (.var 10) (.lit 1))
            (.call 16 (.l (.lit []) (.l (.var 1) .nil)) 1
            (.ite (.eq (.var 12) (.lit 1))
             (.ite (.not (.eq (.var 11) (.var 1)))
              (.fin (.e (.lit 0) .nil))
              (.need [(.pre 28 (.l (.lit []) (.e (.lit 1) .nil)))]
              (.call 28 (.l (.lit []) (.e (.lit 1) .nil)) 1
              (.ite (.lt (.var 13) (.lit 0))
               (.fin (.e (.lit 0) .nil))
               (.ite (.not (.eq (.var 13) (.var 8)))
                (.fin (.e (.lit 0) .nil))
                (.fin (.e (.lit 1) .nil)))))))
             (.fin (.e (.lit 0) .nil))))
            (.call 16 (.l (.var 5) (.l (.var 1) .nil)) 1
            (.ite (.eq (.var 12) (.lit 1))
             (.ite (.not (.eq (.var 11) (.var 1)))
              (.fin (.e (.lit 0) .nil))
              (.need [(.pre 28 (.l (.lit []) (.e (.lit 1) .nil)))]
              (.call 28 (.l (.lit []) (.e (.lit 1) .nil)) 1
              (.ite (.lt (.var 13) (.lit 0))
               (.fin (.e (.lit 0) .nil))
               (.ite (.not (.eq (.var 13) (.var 8)))
                (.fin (.e (.lit 0) .nil))
                (.fin (.e (.lit 1) .nil)))))))
             (.fin (.e (.lit 0) .nil)))))))))))))
         (.fin (.e (.lit 0) .nil))))
        (.fin (.e (.lit 0) .nil)))))))))
     (.fin (.e (.lit 0) .nil))))
    (.call 16 (.l (.var 2) (.l (.var 1) .nil)) 1
    (.ite (.eq (.var 4) (.lit 1))
     (.ite (.not (.eq (.var 3) (.var 1)))
      (.fin (.e (.lit 0) .nil))
      (.need [(.b (.le (.len (.var 0)) (.lit 1099511627776)))]
      (.call 16 (.l (.var 0) (.l (.var 0) .nil)) 1
      (.ite (.not (.eq (.var 5) (.lit 1)))
       (.fin (.e (.lit 0) .nil))
       (.need [(.pre 27 (.l (.var 0) (.e (.lit 1) .nil)))]
       (.calll 27 (.l (.var 0) (.e (.lit 1) .nil)) [⟨(-9223372036854775808), 9223372036854775807⟩] [(⟨(-9223372036854775808), 9223372036854775807⟩, 9223372036854775807)]
       (.ite (.le (.lit 0) (.var 6))
        (.call 16 (.l (.var 2) (.l (.var 1) .nil)) 1
        (.ite (.eq (.var 7) (.lit 1))
         (.need [(.pre 27 (.l (.var 2) (.e (.lit 1) .nil)))]
         (.calll 27 (.l (.var 2) (.e (.lit 1) .nil)) [⟨(-9223372036854775808), 9223372036854775807⟩] [(⟨(-9223372036854775808), 9223372036854775807⟩, 9223372036854775807)]
         (.need [(.pre 28 (.l (.var 4) (.e (.lit 1) .nil)))]
         (.call 28 (.l (.var 4) (.e (.lit 1) .nil)) 1
         (.ite (.lt (.var 9) (.lit 0))
          (.fin (.e (.lit 0) .nil))
          (.ite (.not (.eq (.var 9) (.var 8)))
           (.fin (.e (.lit 0) .nil))
           (.need [(.b (.le (.len (.var 0)) (.lit 1099511627776)))]
           (.calll 26 (.l (.var 0) .nil) [⟨0, 1⟩, ⟨(-9223372036854775808), 9223372036854775807⟩] [(⟨(-9223372036854775808), 9223372036854775807⟩, 1099511627776)]
           (.ite (.eq (.var 10) (.lit 1))
            (.call 16 (.l (.lit []) (.l (.var 1) .nil)) 1
            (.ite (.eq (.var 12) (.lit 1))
             (.ite (.not (.eq (.var 11) (.var 1)))
              (.fin (.e (.lit 0) .nil))
              (.need [(.pre 28 (.l (.var 4) (.e (.lit 1) .nil)))]
              (.call 28 (.l (.var 4) (.e (.lit 1) .nil)) 1
              (.ite (.lt (.var 13) (.lit 0))
               (.fin (.e (.lit 0) .nil))
               (.ite (.not (.eq (.var 13) (.var 8)))
                (.fin (.e (.lit 0) .nil))
                (.fin (.e (.lit 1) .nil)))))))
             (.fin (.e (.lit 0) .nil))))
            (.call 16 (.l (.var 5) (.l (.var 1) .nil)) 1
            (.ite (.eq (.var 12) (.lit 1))
             (.ite (.not (.eq (.var 11) (.var 1)))
              (.fin (.e (.lit 0) .nil))
              (.need [(.pre 28 (.l (.var 4) (.e (.lit 1) .nil)))]
              (.call 28 (.l (.var 4) (.e (.lit 1) .nil)) 1
              (.ite (.lt (.var 13) (.lit 0))
               (.fin (.e (.lit 0) .nil))
               (.ite (.not (.eq (.var 13) (.var 8)))
                (.fin (.e (.lit 0) .nil))
                (.fin (.e (.lit 1) .nil)))))))
             (.fin (.e (.lit 0) .nil)))))))))))))
         (.fin (.e (.lit 0) .nil))))
        (.fin (.e (.lit 0) .nil)))))))))
     (.fin (.e (.lit 0) .nil)))))))))))
theorem vc7 : vcOfI ⟨c7, []⟩ iv7 (parLvs s7.params) 250 Try.f7 s7 = t7 := by kernel_rfl
set_option linter.unusedVariables false in
def p7 (T : Tab) (I : Nat → Env → Env → Prop) (M : Nat → Env → Env → Nat) (pre : Nat → List Int → List (List Int) → Prop) (post : List Int → List (List Int) → Prop) (l0 : List Int) : Prop :=
 ((decide ((1048576 : Int) < (List.length l0 : Int)) = true →
  post [1] []) ∧ (decide ((1048576 : Int) < (List.length l0 : Int)) = false →
  ((decide (((List.length l0 : Int) : Int) ≤ 1099511627776) = true) ∧ ((decide (((List.length l0 : Int) : Int) ≤ 1099511627776) = true) →
  ∀ v0 v1 : Int, ∀ l1 : List Int, allHas [⟨0, 1⟩, ⟨(-9223372036854775808), 9223372036854775807⟩] [v0, v1] → allL [(⟨(-9223372036854775808), 9223372036854775807⟩, 1099511627776)] [l1] → ([v0, v1], [l1]) = T.fns 25 [] [l0] →
  ((decide ((v0 : Int) = 1) = true →
   ((decide (((List.length l0 : Int) : Int) ≤ 1099511627776) = true) ∧ ((decide (((List.length l0 : Int) : Int) ≤ 1099511627776) = true) →
   ∀ v2 v3 : Int, ∀ l2 : List Int, allHas [⟨0, 1⟩, ⟨(-9223372036854775808), 9223372036854775807⟩] [v2, v3] → allL [(⟨(-9223372036854775808), 9223372036854775807⟩, 1099511627776)] [l2] → ([v2, v3], [l2]) = T.fns 26 [] [l0] →
   ((decide ((v2 : Int) = 1) = true →
    ∀ v4 : Int, [v4] = T.outL 16 1 [] [([] : List Int), ([] : List Int)] →
    ((decide ((v4 : Int) = 1) = true →
     (((!decide ((v3 : Int) = v1)) = true →
      post [0] []) ∧ ((!decide ((v3 : Int) = v1)) = false →
      ((decide (((List.length l0 : Int) : Int) ≤ 1099511627776) = true) ∧ ((decide (((List.length l0 : Int) : Int) ≤ 1099511627776) = true) →
      ∀ v5 : Int, [v5] = T.outL 16 1 [] [l0, l0] →
      (((!decide ((v5 : Int) = 1)) = true →
       post [0] []) ∧ ((!decide ((v5 : Int) = 1)) = false →
       ((pre 27 [1] [l0]) ∧ ((pre 27 [1] [l0]) →
       ∀ v6 : Int, ∀ l3 : List Int, allHas [⟨(-9223372036854775808), 9223372036854775807⟩] [v6] → allL [(⟨(-9223372036854775808), 9223372036854775807⟩, 9223372036854775807)] [l3] → ([v6], [l3]) = T.fns 27 [1] [l0] →
       ((decide ((0 : Int) ≤ v6) = true →
        ∀ v7 : Int, [v7] = T.outL 16 1 [] [([] : List Int), ([] : List Int)] →
        ((decide ((v7 : Int) = 1) = true →
         ((pre 27 [1] [([] : List Int)]) ∧ ((pre 27 [1] [([] : List Int)]) →
         ∀ v8 : Int, ∀ l4 : List Int, allHas [⟨(-9223372036854775808), 9223372036854775807⟩] [v8] → allL [(⟨(-9223372036854775808), 9223372036854775807⟩, 9223372036854775807)] [l4] → ([v8], [l4]) = T.fns 27 [1] [([] : List Int)] →
         ((pre 28 [1] [([] : List Int)]) ∧ ((pre 28 [1] [([] : List Int)]) →
         ∀ v9 : Int, [v9] = T.outL 28 1 [1] [([] : List Int)] →
         ((decide ((v9 : Int) < 0) = true →
          post [0] []) ∧ (decide ((v9 : Int) < 0) = false →
          (((!decide ((v9 : Int) = v8)) = true →
           post [0] []) ∧ ((!decide ((v9 : Int) = v8)) = false →
           ((decide (((List.length l0 : Int) : Int) ≤ 1099511627776) = true) ∧ ((decide (((List.length l0 : Int) : Int) ≤ 1099511627776) = true) →
           ∀ v10 v11 : Int, ∀ l5 : List Int, allHas [⟨0, 1⟩, ⟨(-9223372036854775808), 9223372036854775807⟩] [v10, v11] → allL [(⟨(-9223372036854775808), 9223372036854775807⟩, 1099511627776)] [l5] → ([v10, v11], [l5]) = T.fns 26 [] [l0] →
           ((decide ((v10 : Int) = 1) = true →
            ∀ v12 : Int, [v12] = T.outL 16 1 [] [([] : List Int), ([] : List Int)] →
            ((decide ((v12 : Int) = 1) = true →
             (((!decide ((v11 : Int) = v1)) = true →
              post [0] []) ∧ ((!decide ((v11 : Int) = v1)) = false →
              ((pre 28 [1] [([] : List Int)]) ∧ ((pre 28 [1] [([] : List Int)]) →
              ∀ v13 : Int, [v13] = T.outL 28 1 [1] [([] : List Int)] →
              ((decide ((v13 : Int) < 0) = true →
               post [0] []) ∧ (decide ((v13 : Int) < 0) = false →
               (((!decide ((v13 : Int) = v8)) = true →
                post [0] []) ∧ ((!decide ((v13 : Int) = v8)) = false →
                post [1] []))))))))) ∧ (decide ((v12 : Int) = 1) = false →
             post [0] []))) ∧ (decide ((v10 : Int) = 1) = false →
            ∀ v12 : Int, [v12] = T.outL 16 1 [] [l5, ([] : List Int)] →
            ((decide ((v12 : Int) = 1) = true →
             (((!decide ((v11 : Int) = v1)) = true →
              post [0] []) ∧ ((!decide ((v11 : Int) = v1)) = false →
              ((pre 28 [1] [([] : List Int)]) ∧ ((pre 28 [1] [([] : List Int)]) →
              ∀ v13 : Int, [v13] = T.outL 28 1 [1] [([] : List Int)] →
              ((decide ((v13 : Int) < 0) = true →
               post [0] []) ∧ (decide ((v13 : Int) < 0) = false →
               (((!decide ((v13 : Int) = v8)) = true →
                post [0] []) ∧ ((!decide ((v13 : Int) = v8)) = false →
                post [1] []))))))))) ∧ (decide ((v12 : Int) = 1) = false →
             post [0] []))))))))))))))) ∧ (decide ((v7 : Int) = 1) = false →
         post [0] []))) ∧ (decide ((0 : Int) ≤ v6) = false →
        post [0] []))))))))))) ∧ (decide ((v4 : Int) = 1) = false →
     post [0] []))) ∧ (decide ((v2 : Int) = 1) = false →
    ∀ v4 : Int, [v4] = T.outL 16 1 [] [l2, ([] : List Int)] →
    ((decide ((v4 : Int) = 1) = true →
     (((!decide ((v3 : Int) = v1)) = true →
      post [0] []) ∧ ((!decide ((v3 : Int) = v1)) = false →
      ((decide (((List.length l0 : Int) : Int) ≤ 1099511627776) = true) ∧ ((decide (((List.length l0 : Int) : Int) ≤ 1099511627776) = true) →
      ∀ v5 : Int, [v5] = T.outL 16 1 [] [l0, l0] →
      (((!decide ((v5 : Int) = 1)) = true →
       post [0] []) ∧ ((!decide ((v5 : Int) = 1)) = false →
       ((pre 27 [1] [l0]) ∧ ((pre 27 [1] [l0]) →
       ∀ v6 : Int, ∀ l3 : List Int, allHas [⟨(-9223372036854775808), 9223372036854775807⟩] [v6] → allL [(⟨(-9223372036854775808), 9223372036854775807⟩, 9223372036854775807)] [l3] → ([v6], [l3]) = T.fns 27 [1] [l0] →
       ((decide ((0 : Int) ≤ v6) = true →
        ∀ v7 : Int, [v7] = T.outL 16 1 [] [l2, ([] : List Int)] →
        ((decide ((v7 : Int) = 1) = true →
         ((pre 27 [1] [l2]) ∧ ((pre 27 [1] [l2]) →
         ∀ v8 : Int, ∀ l4 : List Int, allHas [⟨(-9223372036854775808), 9223372036854775807⟩] [v8] → allL [(⟨(-9223372036854775808), 9223372036854775807⟩, 9223372036854775807)] [l4] → ([v8], [l4]) = T.fns 27 [1] [l2] →
         ((pre 28 [1] [l4]) ∧ ((pre 28 [1] [l4]) →
         ∀ v9 : Int, [v9] = T.outL 28 1 [1] [l4] →
         ((decide ((v9 : Int) < 0) = true →
          post [0] []) ∧ (decide ((v9 : Int) < 0) = false →
          (((!decide ((v9 : Int) = v8)) = true →
           post [0] []) ∧ ((!decide ((v9 : Int) = v8)) = false →
           ((decide (((List.length l0 : Int) : Int) ≤ 1099511627776) = true) ∧ ((decide (((List.length l0 : Int) : Int) ≤ 1099511627776) = true) →
           ∀ v10 v11 : Int, ∀ l5 : List Int, allHas [⟨0, 1⟩, ⟨(-9223372036854775808), 9223372036854775807⟩] [v10, v11] → allL [(⟨(-9223372036854775808), 9223372036854775807⟩, 1099511627776)] [l5] → ([v10, v11], [l5]) = T.fns 26 [] [l0] →
           ((decide ((v10 : Int) = 1) = true →
            ∀ v12 : Int, [v12] = T.outL 16 1 [] [([] : List Int), ([] : List Int)] →
            ((decide ((v12 : Int) = 1) = true →
             (((!decide ((v11 : Int) = v1)) = true →
              post [0] []) ∧ ((!decide ((v11 : Int) = v1)) = false →
              ((pre 28 [1] [l4]) ∧ ((pre 28 [1] [l4]) →
              ∀ v13 : Int, [v13] = T.outL 28 1 [1] [l4] →
              ((decide ((v13 : Int) < 0) = true →
               post [0] []) ∧ (decide ((v13 : Int) < 0) = false →
               (((!decide ((v13 : Int) = v8)) = true →
                post [0] []) ∧ ((!decide ((v13 : Int) = v8)) = false →
                post [1] []))))))))) ∧ (decide ((v12 : Int) = 1) = false →
             post [0] []))) ∧ (decide ((v10 : Int) = 1) = false →
            ∀ v12 : Int, [v12] = T.outL 16 1 [] [l5, ([] : List Int)] →
            ((decide ((v12 : Int) = 1) = true →
             (((!decide ((v11 : Int) = v1)) = true →
              post [0] []) ∧ ((!decide ((v11 : Int) = v1)) = false →
              ((pre 28 [1] [l4]) ∧ ((pre 28 [1] [l4]) →
              ∀ v13 : Int, [v13] = T.outL 28 1 [1] [l4] →
              ((decide ((v13 : Int) < 0) = true →
               post [0] []) ∧ (decide ((v13 : Int) < 0) = false →
               (((!decide ((v13 : Int) = v8)) = true →
                post [0] []) ∧ ((!decide ((v13 : Int) = v8)) = false →
                post [1] []))))))))) ∧ (decide ((v12 : Int) = 1) = false →
             post [0] []))))))))))))))) ∧ (decide ((v7 : Int) = 1) = false →
         post [0] []))) ∧ (decide ((0 : Int) ≤ v6) = false →
        post [0] []))))))))))) ∧ (decide ((v4 : Int) = 1) = false →
     post [0] []))))))) ∧ (decide ((v0 : Int) = 1) = false →
   ((decide (((List.length l0 : Int) : Int) ≤ 1099511627776) = true) ∧ ((decide (((List.length l0 : Int) : Int) ≤ 1099511627776) = true) →
   ∀ v2 v3 : Int, ∀ l2 : List Int, allHas [⟨0, 1⟩, ⟨(-9223372036854775808), 9223372036854775807⟩] [v2, v3] → allL [(⟨(-9223372036854775808), 9223372036854775807⟩, 1099511627776)] [l2] → ([v2, v3], [l2]) = T.fns 26 [] [l0] →
   ((decide ((v2 : Int) = 1) = true →
    ∀ v4 : Int, [v4] = T.outL 16 1 [] [([] : List Int), l1] →
    ((decide ((v4 : Int) = 1) = true →
     (((!decide ((v3 : Int) = v1)) = true →
      post [0] []) ∧ ((!decide ((v3 : Int) = v1)) = false →
      ((decide (((List.length l0 : Int) : Int) ≤ 1099511627776) = true) ∧ ((decide (((List.length l0 : Int) : Int) ≤ 1099511627776) = true) →
      ∀ v5 : Int, [v5] = T.outL 16 1 [] [l0, l0] →
      (((!decide ((v5 : Int) = 1)) = true →
       post [0] []) ∧ ((!decide ((v5 : Int) = 1)) = false →
       ((pre 27 [1] [l0]) ∧ ((pre 27 [1] [l0]) →
       ∀ v6 : Int, ∀ l3 : List Int, allHas [⟨(-9223372036854775808), 9223372036854775807⟩] [v6] → allL [(⟨(-9223372036854775808), 9223372036854775807⟩, 9223372036854775807)] [l3] → ([v6], [l3]) = T.fns 27 [1] [l0] →
       ((decide ((0 : Int) ≤ v6) = true →
        ∀ v7 : Int, [v7] = T.outL 16 1 [] [([] : List Int), l1] →
        ((decide ((v7 : Int) = 1) = true →
         ((pre 27 [1] [([] : List Int)]) ∧ ((pre 27 [1] [([] : List Int)]) →
         ∀ v8 : Int, ∀ l4 : List Int, allHas [⟨(-9223372036854775808), 9223372036854775807⟩] [v8] → allL [(⟨(-9223372036854775808), 9223372036854775807⟩, 9223372036854775807)] [l4] → ([v8], [l4]) = T.fns 27 [1] [([] : List Int)] →
         ((pre 28 [1] [([] : List Int)]) ∧ ((pre 28 [1] [([] : List Int)]) →
         ∀ v9 : Int, [v9] = T.outL 28 1 [1] [([] : List Int)] →
         ((decide ((v9 : Int) < 0) = true →
          post [0] []) ∧ (decide ((v9 : Int) < 0) = false →
          (((!decide ((v9 : Int) = v8)) = true →
           post [0] []) ∧ ((!decide ((v9 : Int) = v8)) = false →
           ((decide (((List.length l0 : Int) : Int) ≤ 1099511627776) = true) ∧ ((decide (((List.length l0 : Int) : Int) ≤ 1099511627776) = true) →
           ∀ v10 v11 : Int, ∀ l5 : List Int, allHas [⟨0, 1⟩, ⟨(-9223372036854775808), 9223372036854775807⟩] [v10, v11] → allL [(⟨(-9223372036854775808), 9223372036854775807⟩, 1099511627776)] [l5] → ([v10, v11], [l5]) = T.fns 26 [] [l0] →
           ((decide ((v10 : Int) = 1) = true →
            ∀ v12 : Int, [v12] = T.outL 16 1 [] [([] : List Int), l1] →
            ((decide ((v12 : Int) = 1) = true →
             (((!decide ((v11 : Int) = v1)) = true →
              post [0] []) ∧ ((!decide ((v11 : Int) = v1)) = false →
              ((pre 28 [1] [([] : List Int)]) ∧ ((pre 28 [1] [([] : List Int)]) →
              ∀ v13 : Int, [v13] = T.outL 28 1 [1] [([] : List Int)] →
              ((decide ((v13 : Int) < 0) = true →
               post [0] []) ∧ (decide ((v13 : Int) < 0) = false →
               (((!decide ((v13 : Int) = v8)) = true →
                post [0] []) ∧ ((!decide ((v13 : Int) = v8)) = false →
                post [1] []))))))))) ∧ (decide ((v12 : Int) = 1) = false →
             post [0] []))) ∧ (decide ((v10 : Int) = 1) = false →
            ∀ v12 : Int, [v12] = T.outL 16 1 [] [l5, l1] →
            ((decide ((v12 : Int) = 1) = true →
             (((!decide ((v11 : Int) = v1)) = true →
              post [0] []) ∧ ((!decide ((v11 : Int) = v1)) = false →
              ((pre 28 [1] [([] : List Int)]) ∧ ((pre 28 [1] [([] : List Int)]) →
              ∀ v13 : Int, [v13] = T.outL 28 1 [1] [([] : List Int)] →
              ((decide ((v13 : Int) < 0) = true →
               post [0] []) ∧ (decide ((v13 : Int) < 0) = false →
               (((!decide ((v13 : Int) = v8)) = true →
                post [0] []) ∧ ((!decide ((v13 : Int) = v8)) = false →
                post [1] []))))))))) ∧ (decide ((v12 : Int) = 1) = false →
             post [0] []))))))))))))))) ∧ (decide ((v7 : Int) = 1) = false →
         post [0] []))) ∧ (decide ((0 : Int) ≤ v6) = false →
        post [0] []))))))))))) ∧ (decide ((v4 : Int) = 1) = false →
     post [0] []))) ∧ (decide ((v2 : Int) = 1) = false →
    ∀ v4 : Int, [v4] = T.outL 16 1 [] [l2, l1] →
    ((decide ((v4 : Int) = 1) = true →
     (((!decide ((v3 : Int) = v1)) = true →
      post [0] []) ∧ ((!decide ((v3 : Int) = v1)) = false →
      ((decide (((List.length l0 : Int) : Int) ≤ 1099511627776) = true) ∧ ((decide (((List.length l0 : Int) : Int) ≤ 1099511627776) = true) →
      ∀ v5 : Int, [v5] = T.outL 16 1 [] [l0, l0] →
      (((!decide ((v5 : Int) = 1)) = true →
       post [0] []) ∧ ((!decide ((v5 : Int) = 1)) = false →
       ((pre 27 [1] [l0]) ∧ ((pre 27 [1] [l0]) →
       ∀ v6 : Int, ∀ l3 : List Int, allHas [⟨(-9223372036854775808), 9223372036854775807⟩] [v6] → allL [(⟨(-9223372036854775808), 9223372036854775807⟩, 9223372036854775807)] [l3] → ([v6], [l3]) = T.fns 27 [1] [l0] →
       ((decide ((0 : Int) ≤ v6) = true →
        ∀ v7 : Int, [v7] = T.outL 16 1 [] [l2, l1] →
        ((decide ((v7 : Int) = 1) = true →
         ((pre 27 [1] [l2]) ∧ ((pre 27 [1] [l2]) →
         ∀ v8 : Int, ∀ l4 : List Int, allHas [⟨(-9223372036854775808), 9223372036854775807⟩] [v8] → allL [(⟨(-9223372036854775808), 9223372036854775807⟩, 9223372036854775807)] [l4] → ([v8], [l4]) = T.fns 27 [1] [l2] →
         ((pre 28 [1] [l4]) ∧ ((pre 28 [1] [l4]) →
         ∀ v9 : Int, [v9] = T.outL 28 1 [1] [l4] →
         ((decide ((v9 : Int) < 0) = true →
          post [0] []) ∧ (decide ((v9 : Int) < 0) = false →
          (((!decide ((v9 : Int) = v8)) = true →
           post [0] []) ∧ ((!decide ((v9 : Int) = v8)) = false →
           ((decide (((List.length l0 : Int) : Int) ≤ 1099511627776) = true) ∧ ((decide (((List.length l0 : Int) : Int) ≤ 1099511627776) = true) →
           ∀ v10 v11 : Int, ∀ l5 : List Int, allHas [⟨0, 1⟩, ⟨(-9223372036854775808), 9223372036854775807⟩] [v10, v11] → allL [(⟨(-9223372036854775808), 9223372036854775807⟩, 1099511627776)] [l5] → ([v10, v11], [l5]) = T.fns 26 [] [l0] →
           ((decide ((v10 : Int) = 1) = true →
            ∀ v12 : Int, [v12] = T.outL 16 1 [] [([] : List Int), l1] →
            ((decide ((v12 : Int) = 1) = true →
             (((!decide ((v11 : Int) = v1)) = true →
              post [0] []) ∧ ((!decide ((v11 : Int) = v1)) = false →
              ((pre 28 [1] [l4]) ∧ ((pre 28 [1] [l4]) →
              ∀ v13 : Int, [v13] = T.outL 28 1 [1] [l4] →
              ((decide ((v13 : Int) < 0) = true →
               post [0] []) ∧ (decide ((v13 : Int) < 0) = false →
               (((!decide ((v13 : Int) = v8)) = true →
                post [0] []) ∧ ((!decide ((v13 : Int) = v8)) = false →
                post [1] []))))))))) ∧ (decide ((v12 : Int) = 1) = false →
             post [0] []))) ∧ (decide ((v10 : Int) = 1) = false →
            ∀ v12 : Int, [v12] = T.outL 16 1 [] [l5, l1] →
            ((decide ((v12 : Int) = 1) = true →
             (((!decide ((v11 : Int) = v1)) = true →
              post [0] []) ∧ ((!decide ((v11 : Int) = v1)) = false →
              ((pre 28 [1] [l4]) ∧ ((pre 28 [1] [l4]) →
              ∀ v13 : Int, [v13] = T.outL 28 1 [1] [l4] →
              ((decide ((v13 : Int) < 0) = true →
               post [0] []) ∧ (decide ((v13 : Int) < 0) = false →
               (((!decide ((v13 : Int) = v8)) = true →
                post [0] []) ∧ ((!decide ((v13 : Int) = v8)) = false →
                post [1] []))))))))) ∧ (decide ((v12 : Int) = 1) = false →
             post [0] []))))))))))))))) ∧ (decide ((v7 : Int) = 1) = false →
         post [0] []))) ∧ (decide ((0 : Int) ≤ v6) = false →
        post [0] []))))))))))) ∧ (decide ((v4 : Int) = 1) = false →
     post [0] []))))))))))))
theorem q7 (T : Tab) (I : Nat → Env → Env → Prop) (M : Nat → Env → Env → Nat) (pre : Nat → List Int → List (List Int) → Prop) (post : List Int → List (List Int) → Prop) (l0 : List Int) : t7.plain T (presG pre I M) post ⟨[], [l0]⟩ = p7 T I M pre post l0 := by kernel_rfl
theorem k7 (T : Tab) (I : Nat → Env → Env → Prop) (M : Nat → Env → Env → Nat) (pre : Nat → List Int → List (List Int) → Prop) (hs : SubSig T c7.sigs) (ht : TotG pre c7.sigs) (hg : T.sig 7 = some s7) (hC : CtAll Try.prog T.fns (presQ pre) c7.sigs) (hk : CpAll Try.prog c7.cps) (hlf : LfAll Try.prog T.fns (presQ pre) c7.lfs) (hwf : WfAll Try.prog T.fns (presQ pre) c7.wfs) (hi : ∀ xs ls, allHas (parIvs s7.params) xs → pre 7 xs ls → allHas iv7 xs)
    (h : ∀ (l0 : List Int), allHas iv7 [] → allL (parLvs s7.params) [l0] → pre 7 [] [l0] → p7 T I M pre (fun ys _ => ys = T.app 7 [] [l0]) l0) : CT Try.prog T.fns (presQ pre) 7 s7 :=
  T.ctg (hlf := hlf) (hwf := hwf) (F := ⟨c7, []⟩) (fuel := 250) vc7 Try.checked.mixed hs ht hg hC hk Try.func7 I M (fun xs ls h1 h2 h3 => ⟨hi xs ls h1 h3, h2⟩) fun xs ls hx hl hp => by
    match xs, ls, hx, hl, hp with
    | [], [l0], hx, hl, hp => rw [q7]; exact h l0 hx hl hp
/-- loop.example/g01242/spec.TimesPoly -/
def s29 : LSig := ⟨[.lst [.i64], .lst [.i64]], [.l false [[.i64]] [2], .n false [.i .i64]], true⟩
noncomputable def c29 : Cfg := ⟨Try.prog, [(43, s43)], [], [], []⟩
def iv29 : List Iv := []
def t29 : VC :=
 (.call 43 (.l (.var 0) .nil) 1
 (.ite (.eq (.var 0) (.lit 1))
  (.call 43 (.l (.var 1) .nil) 1
  (.ite (.not (.eq (.var 1) (.lit 1)))
   (.need []
   (.fin (.e (.lit 0) (.e (.lit 1) (.l (.lit []) .nil)))))
   (.need [(.b (.le (.lit 0) (.wrap .i64 (.sub (.wrap .i64 (.add (.len (.var 0)) (.len (.var 1)))) (.lit 1))))), (.b (.le (.wrap .i64 (.sub (.wrap .i64 (.add (.len (.var 0)) (.len (.var 1)))) (.lit 1))) (.wrap .i64 (.sub (.wrap .i64 (.add (.len (.var 0)) (.len (.var 1)))) (.lit 1))))), (.b (.le (.wrap .i64 (.sub (.wrap .i64 (.add (.len (.var 0)) (.len (.var 1)))) (.lit 1))) (.lit 1099511627776)))]
   (.loop 1 [(.lit 0)] [(.zeros (.mul (.wrap .i64 (.sub (.wrap .i64 (.add (.len (.var 0)) (.len (.var 1)))) (.lit 1))) (.lit 1)))] [⟨(-9223372036854775808), 9223372036854775807⟩] [(⟨(-9223372036854775808), 9223372036854775807⟩, 9223372036854775807)]
    (.ite (.lt (.var 2) (.len (.var 0)))
     (.loop 2 [(.lit 0)] [(.var 2)] [⟨(-9223372036854775808), 9223372036854775807⟩] [(⟨(-9223372036854775808), 9223372036854775807⟩, 9223372036854775807)]
      (.ite (.lt (.var 3) (.len (.var 1)))
       (.need [(.b (.eq (.len (.zeros (.mul (.wrap .i64 (.sub (.wrap .i64 (.add (.len (.var 0)) (.len (.var 1)))) (.lit 1))) (.lit 1)))) (.len (.var 3)))), (.b (.le (.lit 0) (.wrap .i64 (.add (.var 2) (.var 3))))), (.b (.lt (.wrap .i64 (.add (.var 2) (.var 3))) (.len (.var 3)))), (.b (.lt (.add (.lit 0) (.wrap .i64 (.add (.var 2) (.var 3)))) (.len (.var 3)))), (.b (.le (.lit 0) (.var 2))), (.b (.lt (.var 2) (.len (.var 0)))), (.b (.lt (.add (.lit 0) (.var 2)) (.len (.var 0)))), (.b (.le (.lit 0) (.var 3))), (.b (.lt (.var 3) (.len (.var 1)))), (.b (.lt (.add (.lit 0) (.var 3)) (.len (.var 1)))), (.b (.le (.lit 0) (.wrap .i64 (.add (.var 2) (.var 3))))), (.b (.lt (.wrap .i64 (.add (.var 2) (.var 3))) (.len (.var 3)))), (.b (.lt (.add (.lit 0) (.wrap .i64 (.add (.var 2) (.var 3)))) (.len (.var 3))))]
       (.bind (.at (.var 3) (.add (.lit 0) (.wrap .i64 (.add (.var 2) (.var 3)))))
       (.bind (.at (.var 0) (.add (.lit 0) (.var 2)))
       (.bind (.at (.var 1) (.add (.lit 0) (.var 3)))
       (.bind (.wrap .i64 (.add (.var 3) (.lit 1)))
       (.again 2 3 3 [⟨(-9223372036854775808), 9223372036854775807⟩] [(.var 7)] [(.set (.var 3) (.add (.lit 0) (.wrap .i64 (.add (.var 2) (.var 3)))) (.wrap .i64 (.add (.at (.var 3) (.add (.lit 0) (.wrap .i64 (.add (.var 2) (.var 3))))) (.wrap .i64 (.mul (.at (.var 0) (.add (.lit 0) (.var 2))) (.at (.var 1) (.add (.lit 0) (.var 3))))))))]))))))
       (.bind (.wrap .i64 (.add (.var 2) (.lit 1)))
       (.again 1 2 2 [⟨(-9223372036854775808), 9223372036854775807⟩] [(.var 4)] [(.var 3)]))))
     (.need [(.b (.eq (.len (.zeros (.mul (.wrap .i64 (.sub (.wrap .i64 (.add (.len (.var 0)) (.len (.var 1)))) (.lit 1))) (.lit 1)))) (.len (.var 2))))]
     (.call 43 (.l (.var 2) .nil) 1
     (.ite (.not (.eq (.var 3) (.lit 1)))
      (.need []
      (.fin (.e (.lit 0) (.e (.lit 3) (.l (.lit []) .nil)))))
      (.need [(.b (.eq (.len (.zeros (.mul (.wrap .i64 (.sub (.wrap .i64 (.add (.len (.var 0)) (.len (.var 1)))) (.lit 1))) (.lit 1)))) (.len (.var 2))))]
      (.need [(.b (.eq (.len (.var 2)) (.len (.var 2)))), (.b (.le (.len (.var 2)) (.lit 1099511627776)))]
      (.fin (.e (.lit 0) (.e (.lit 0) (.l (.var 2) .nil))))))))))))))
  (.need []
  (.fin (.e (.lit 0) (.e (.lit 1) (.l (.lit []) .nil)))))))
theorem vc29 : vcLf ⟨c29, [(5, ⟨1, [7], [], [25, 26, 27, 28, 8, 31, 32, 33, 34, 37, 38, 39, 40, 41, 42, 43, 44, 45, 46, 47, 48, 49, 50, 51, 52, 53, 35, 36, 29, 30], [⟨(-9223372036854775808), 9223372036854775807⟩], [2], []⟩), (8, ⟨2, [8], [], [31, 32, 33, 34, 37, 38, 39, 40, 41, 42, 43, 44, 45, 46, 47, 48, 49, 50, 51, 52, 53, 35, 36], [⟨(-9223372036854775808), 9223372036854775807⟩], [2], []⟩)]⟩ iv29 (parLvs s29.params) 250 Try.f29 s29 = t29 := by kernel_rfl
set_option linter.unusedVariables false in
def p29 (T : Tab) (I : Nat → Env → Env → Prop) (M : Nat → Env → Env → Nat) (pre : Nat → List Int → List (List Int) → Prop) (post : List Int → List (List Int) → Prop) (l0 l1 : List Int) : Prop :=
 ∀ v0 : Int, [v0] = T.outL 43 1 [] [l0] →
 ((decide ((v0 : Int) = 1) = true →
  ∀ v1 : Int, [v1] = T.outL 43 1 [] [l1] →
  (((!decide ((v1 : Int) = 1)) = true →
   ((True) ∧ ((True) →
   post [0, 1] [([] : List Int)]))) ∧ ((!decide ((v1 : Int) = 1)) = false →
   ((decide ((0 : Int) ≤ (IntKind.wrap .i64 ((IntKind.wrap .i64 ((List.length l0 : Int) + (List.length l1 : Int))) - 1))) = true ∧ decide (((IntKind.wrap .i64 ((IntKind.wrap .i64 ((List.length l0 : Int) + (List.length l1 : Int))) - 1)) : Int) ≤ (IntKind.wrap .i64 ((IntKind.wrap .i64 ((List.length l0 : Int) + (List.length l1 : Int))) - 1))) = true ∧ decide (((IntKind.wrap .i64 ((IntKind.wrap .i64 ((List.length l0 : Int) + (List.length l1 : Int))) - 1)) : Int) ≤ 1099511627776) = true) ∧ ((decide ((0 : Int) ≤ (IntKind.wrap .i64 ((IntKind.wrap .i64 ((List.length l0 : Int) + (List.length l1 : Int))) - 1))) = true ∧ decide (((IntKind.wrap .i64 ((IntKind.wrap .i64 ((List.length l0 : Int) + (List.length l1 : Int))) - 1)) : Int) ≤ (IntKind.wrap .i64 ((IntKind.wrap .i64 ((List.length l0 : Int) + (List.length l1 : Int))) - 1))) = true ∧ decide (((IntKind.wrap .i64 ((IntKind.wrap .i64 ((List.length l0 : Int) + (List.length l1 : Int))) - 1)) : Int) ≤ 1099511627776) = true) →
   ((allHas [⟨(-9223372036854775808), 9223372036854775807⟩] [0] ∧ I 1 ⟨[v0, v1], [l0, l1]⟩ ⟨[0], [(List.replicate (Int.toNat ((IntKind.wrap .i64 ((IntKind.wrap .i64 ((List.length l0 : Int) + (List.length l1 : Int))) - 1)) * 1)) (0 : Int))]⟩) ∧ ∀ v2 : Int, ∀ l2 : List Int, allHas [⟨(-9223372036854775808), 9223372036854775807⟩] [v2] → allL [(⟨(-9223372036854775808), 9223372036854775807⟩, 9223372036854775807)] [l2] → I 1 ⟨[v0, v1], [l0, l1]⟩ ⟨[v2], [l2]⟩ →
    ((decide ((v2 : Int) < (List.length l0 : Int)) = true →
     ((allHas [⟨(-9223372036854775808), 9223372036854775807⟩] [0] ∧ I 2 ⟨[v0, v1, v2], [l0, l1, l2]⟩ ⟨[0], [l2]⟩) ∧ ∀ v3 : Int, ∀ l3 : List Int, allHas [⟨(-9223372036854775808), 9223372036854775807⟩] [v3] → allL [(⟨(-9223372036854775808), 9223372036854775807⟩, 9223372036854775807)] [l3] → I 2 ⟨[v0, v1, v2], [l0, l1, l2]⟩ ⟨[v3], [l3]⟩ →
      ((decide ((v3 : Int) < (List.length l1 : Int)) = true →
       ((decide (((List.length (List.replicate (Int.toNat ((IntKind.wrap .i64 ((IntKind.wrap .i64 ((List.length l0 : Int) + (List.length l1 : Int))) - 1)) * 1)) (0 : Int)) : Int) : Int) = (List.length l3 : Int)) = true ∧ decide ((0 : Int) ≤ (IntKind.wrap .i64 (v2 + v3))) = true ∧ decide (((IntKind.wrap .i64 (v2 + v3)) : Int) < (List.length l3 : Int)) = true ∧ decide (((0 + (IntKind.wrap .i64 (v2 + v3))) : Int) < (List.length l3 : Int)) = true ∧ decide ((0 : Int) ≤ v2) = true ∧ decide ((v2 : Int) < (List.length l0 : Int)) = true ∧ decide (((0 + v2) : Int) < (List.length l0 : Int)) = true ∧ decide ((0 : Int) ≤ v3) = true ∧ decide ((v3 : Int) < (List.length l1 : Int)) = true ∧ decide (((0 + v3) : Int) < (List.length l1 : Int)) = true ∧ decide ((0 : Int) ≤ (IntKind.wrap .i64 (v2 + v3))) = true ∧ decide (((IntKind.wrap .i64 (v2 + v3)) : Int) < (List.length l3 : Int)) = true ∧ decide (((0 + (IntKind.wrap .i64 (v2 + v3))) : Int) < (List.length l3 : Int)) = true) ∧ ((decide (((List.length (List.replicate (Int.toNat ((IntKind.wrap .i64 ((IntKind.wrap .i64 ((List.length l0 : Int) + (List.length l1 : Int))) - 1)) * 1)) (0 : Int)) : Int) : Int) = (List.length l3 : Int)) = true ∧ decide ((0 : Int) ≤ (IntKind.wrap .i64 (v2 + v3))) = true ∧ decide (((IntKind.wrap .i64 (v2 + v3)) : Int) < (List.length l3 : Int)) = true ∧ decide (((0 + (IntKind.wrap .i64 (v2 + v3))) : Int) < (List.length l3 : Int)) = true ∧ decide ((0 : Int) ≤ v2) = true ∧ decide ((v2 : Int) < (List.length l0 : Int)) = true ∧ decide (((0 + v2) : Int) < (List.length l0 : Int)) = true ∧ decide ((0 : Int) ≤ v3) = true ∧ decide ((v3 : Int) < (List.length l1 : Int)) = true ∧ decide (((0 + v3) : Int) < (List.length l1 : Int)) = true ∧ decide ((0 : Int) ≤ (IntKind.wrap .i64 (v2 + v3))) = true ∧ decide (((IntKind.wrap .i64 (v2 + v3)) : Int) < (List.length l3 : Int)) = true ∧ decide (((0 + (IntKind.wrap .i64 (v2 + v3))) : Int) < (List.length l3 : Int)) = true) →
       ∀ v4 : Int, v4 = (List.getD l3 (Int.toNat (0 + (IntKind.wrap .i64 (v2 + v3)))) 0) →
       ∀ v5 : Int, v5 = (List.getD l0 (Int.toNat (0 + v2)) 0) →
       ∀ v6 : Int, v6 = (List.getD l1 (Int.toNat (0 + v3)) 0) →
       ∀ v7 : Int, v7 = (IntKind.wrap .i64 (v3 + 1)) →
       (allHas [⟨(-9223372036854775808), 9223372036854775807⟩] [v7] ∧ I 2 ⟨[v0, v1, v2], [l0, l1, l2]⟩ ⟨[v7], [(List.set l3 (Int.toNat (0 + (IntKind.wrap .i64 (v2 + v3)))) (IntKind.wrap .i64 ((List.getD l3 (Int.toNat (0 + (IntKind.wrap .i64 (v2 + v3)))) 0) + (IntKind.wrap .i64 ((List.getD l0 (Int.toNat (0 + v2)) 0) * (List.getD l1 (Int.toNat (0 + v3)) 0))))))]⟩ ∧ M 2 ⟨[v0, v1, v2], [l0, l1, l2]⟩ ⟨[v7], [(List.set l3 (Int.toNat (0 + (IntKind.wrap .i64 (v2 + v3)))) (IntKind.wrap .i64 ((List.getD l3 (Int.toNat (0 + (IntKind.wrap .i64 (v2 + v3)))) 0) + (IntKind.wrap .i64 ((List.getD l0 (Int.toNat (0 + v2)) 0) * (List.getD l1 (Int.toNat (0 + v3)) 0))))))]⟩ < M 2 ⟨[v0, v1, v2], [l0, l1, l2]⟩ ⟨[v3], [l3]⟩)))) ∧ (decide ((v3 : Int) < (List.length l1 : Int)) = false →
       ∀ v4 : Int, v4 = (IntKind.wrap .i64 (v2 + 1)) →
       (allHas [⟨(-9223372036854775808), 9223372036854775807⟩] [v4] ∧ I 1 ⟨[v0, v1], [l0, l1]⟩ ⟨[v4], [l3]⟩ ∧ M 1 ⟨[v0, v1], [l0, l1]⟩ ⟨[v4], [l3]⟩ < M 1 ⟨[v0, v1], [l0, l1]⟩ ⟨[v2], [l2]⟩))))) ∧ (decide ((v2 : Int) < (List.length l0 : Int)) = false →
     ((decide (((List.length (List.replicate (Int.toNat ((IntKind.wrap .i64 ((IntKind.wrap .i64 ((List.length l0 : Int) + (List.length l1 : Int))) - 1)) * 1)) (0 : Int)) : Int) : Int) = (List.length l2 : Int)) = true) ∧ ((decide (((List.length (List.replicate (Int.toNat ((IntKind.wrap .i64 ((IntKind.wrap .i64 ((List.length l0 : Int) + (List.length l1 : Int))) - 1)) * 1)) (0 : Int)) : Int) : Int) = (List.length l2 : Int)) = true) →
     ∀ v3 : Int, [v3] = T.outL 43 1 [] [l2] →
     (((!decide ((v3 : Int) = 1)) = true →
      ((True) ∧ ((True) →
      post [0, 3] [([] : List Int)]))) ∧ ((!decide ((v3 : Int) = 1)) = false →
      ((decide (((List.length (List.replicate (Int.toNat ((IntKind.wrap .i64 ((IntKind.wrap .i64 ((List.length l0 : Int) + (List.length l1 : Int))) - 1)) * 1)) (0 : Int)) : Int) : Int) = (List.length l2 : Int)) = true) ∧ ((decide (((List.length (List.replicate (Int.toNat ((IntKind.wrap .i64 ((IntKind.wrap .i64 ((List.length l0 : Int) + (List.length l1 : Int))) - 1)) * 1)) (0 : Int)) : Int) : Int) = (List.length l2 : Int)) = true) →
      ((decide (((List.length l2 : Int) : Int) = (List.length l2 : Int)) = true ∧ decide (((List.length l2 : Int) : Int) ≤ 1099511627776) = true) ∧ ((decide (((List.length l2 : Int) : Int) = (List.length l2 : Int)) = true ∧ decide (((List.length l2 : Int) : Int) ≤ 1099511627776) = true) →
      post [0, 0] [l2])))))))))))))))) ∧ (decide ((v0 : Int) = 1) = false →
  ((True) ∧ ((True) →
  post [0, 1] [([] : List Int)]))))
theorem q29 (T : Tab) (I : Nat → Env → Env → Prop) (M : Nat → Env → Env → Nat) (pre : Nat → List Int → List (List Int) → Prop) (post : List Int → List (List Int) → Prop) (l0 l1 : List Int) : t29.plain T (presG pre I M) post ⟨[], [l0, l1]⟩ = p29 T I M pre post l0 l1 := by kernel_rfl
theorem k29 (T : Tab) (I : Nat → Env → Env → Prop) (M : Nat → Env → Env → Nat) (pre : Nat → List Int → List (List Int) → Prop) (hs : SubSig T c29.sigs) (ht : TotG pre c29.sigs) (hC : CtAll Try.prog T.fns (presQ pre) c29.sigs) (hk : CpAll Try.prog c29.cps) (hi : ∀ xs ls, allHas (parIvs s29.params) xs → pre 29 xs ls → allHas iv29 xs)
    (h : ∀ (l0 l1 : List Int), allHas iv29 [] → allL (parLvs s29.params) [l0, l1] → pre 29 [] [l0, l1] → p29 T I M pre (fun ys zs => T.fns 29 [] [l0, l1] = (ys, zs)) l0 l1) : CTL Try.prog T.fns (presQ pre) 29 s29 :=
  T.ctl (F := ⟨c29, [(5, ⟨1, [7], [], [25, 26, 27, 28, 8, 31, 32, 33, 34, 37, 38, 39, 40, 41, 42, 43, 44, 45, 46, 47, 48, 49, 50, 51, 52, 53, 35, 36, 29, 30], [⟨(-9223372036854775808), 9223372036854775807⟩], [2], []⟩), (8, ⟨2, [8], [], [31, 32, 33, 34, 37, 38, 39, 40, 41, 42, 43, 44, 45, 46, 47, 48, 49, 50, 51, 52, 53, 35, 36], [⟨(-9223372036854775808), 9223372036854775807⟩], [2], []⟩)]⟩) (fuel := 250) vc29 Try.checked.mixed hs ht hC hk Try.func29 I M (fun xs ls h1 h2 h3 => ⟨hi xs ls h1 h3, h2⟩) fun xs ls hx hl hp => by
    match xs, ls, hx, hl, hp with
    | [], [l0, l1], hx, hl, hp => rw [q29]; exact h l0 l1 hx hl hp
/-- loop.example/g01242/impl.TimesPoly -/
def s30 : LSig := ⟨[.lst [.i64], .lst [.i64]], [.l false [[.i64]] [2], .n false [.i .i64]], true⟩
noncomputable def c30 : Cfg := ⟨Try.prog, [(15, s15)], [], [], []⟩
def iv30 : List Iv := []
def t30 : VC :=
 (.call 15 (.l (.var 0) .nil) 1
 (.ite (.eq (.var 0) (.lit 1))
  (.call 15 (.l (.var 1) .nil) 1
  (.ite (.not (.eq (.var 1) (.lit 1)))
   (.fin (.e (.lit 1) (.e (.lit 1) (.l (.lit []) .nil))))
   (.need [(.b (.le (.lit 0) (.wrap .i64 (.sub (.wrap .i64 (.add (.len (.var 0)) (.len (.var 1)))) (.lit 1))))), (.b (.le (.wrap .i64 (.sub (.wrap .i64 (.add (.len (.var 0)) (.len (.var 1)))) (.lit 1))) (.wrap .i64 (.sub (.wrap .i64 (.add (.len (.var 0)) (.len (.var 1)))) (.lit 1))))), (.b (.le (.wrap .i64 (.sub (.wrap .i64 (.add (.len (.var 0)) (.len (.var 1)))) (.lit 1))) (.lit 1099511627776)))]
   (.loop 1 [(.lit 0)] [(.zeros (.mul (.wrap .i64 (.sub (.wrap .i64 (.add (.len (.var 0)) (.len (.var 1)))) (.lit 1))) (.lit 1)))] [⟨(-9223372036854775808), 9223372036854775807⟩] [(⟨(-9223372036854775808), 9223372036854775807⟩, 9223372036854775807)]
    (.ite (.lt (.var 2) (.len (.var 0)))
     (.need [(.b (.le (.lit 0) (.var 2))), (.b (.lt (.var 2) (.len (.var 0))))]
     (.need [(.b (.lt (.add (.lit 0) (.var 2)) (.len (.var 0))))]
     (.bind (.at (.var 0) (.add (.lit 0) (.var 2)))
     (.loop 2 [(.lit 0)] [(.var 2)] [⟨(-9223372036854775808), 9223372036854775807⟩] [(⟨(-9223372036854775808), 9223372036854775807⟩, 9223372036854775807)]
      (.ite (.lt (.var 4) (.len (.var 1)))
       (.need [(.b (.le (.lit 0) (.var 4))), (.b (.lt (.var 4) (.len (.var 1))))]
       (.need [(.b (.lt (.add (.lit 0) (.var 4)) (.len (.var 1))))]
       (.bind (.at (.var 1) (.add (.lit 0) (.var 4)))
       (.need [(.b (.eq (.len (.zeros (.mul (.wrap .i64 (.sub (.wrap .i64 (.add (.len (.var 0)) (.len (.var 1)))) (.lit 1))) (.lit 1)))) (.len (.var 3))))]
       (.need [(.b (.le (.lit 0) (.wrap .i64 (.add (.var 2) (.var 4))))), (.b (.lt (.wrap .i64 (.add (.var 2) (.var 4))) (.len (.var 3))))]
       (.need [(.b (.lt (.add (.lit 0) (.wrap .i64 (.add (.var 2) (.var 4)))) (.len (.var 3))))]
       (.bind (.at (.var 3) (.add (.lit 0) (.wrap .i64 (.add (.var 2) (.var 4)))))
       (.need [(.b (.le (.lit 0) (.wrap .i64 (.add (.var 2) (.var 4))))), (.b (.lt (.wrap .i64 (.add (.var 2) (.var 4))) (.len (.var 3))))]
       (.need [(.b (.lt (.add (.lit 0) (.wrap .i64 (.add (.var 2) (.var 4)))) (.len (.var 3))))]
       (.again 2 4 3 [⟨(-9223372036854775808), 9223372036854775807⟩] [(.wrap .i64 (.add (.var 4) (.lit 1)))] [(.set (.var 3) (.add (.lit 0) (.wrap .i64 (.add (.var 2) (.var 4)))) (.wrap .i64 (.add (.var 6) (.wrap .i64 (.mul (.var 3) (.var 5))))))]))))))))))
       (.again 1 2 2 [⟨(-9223372036854775808), 9223372036854775807⟩] [(.wrap .i64 (.add (.var 2) (.lit 1)))] [(.var 3)]))))))
     (.need [(.b (.eq (.len (.zeros (.mul (.wrap .i64 (.sub (.wrap .i64 (.add (.len (.var 0)) (.len (.var 1)))) (.lit 1))) (.lit 1)))) (.len (.var 2))))]
     (.call 15 (.l (.var 2) .nil) 1
     (.ite (.not (.eq (.var 3) (.lit 1)))
      (.fin (.e (.lit 1) (.e (.lit 3) (.l (.lit []) .nil))))
      (.need [(.b (.eq (.len (.zeros (.mul (.wrap .i64 (.sub (.wrap .i64 (.add (.len (.var 0)) (.len (.var 1)))) (.lit 1))) (.lit 1)))) (.len (.var 2))))]
      (.need [(.b (.eq (.len (.var 2)) (.len (.var 2)))), (.b (.le (.len (.var 2)) (.lit 1099511627776)))]
      (.fin (.e (.lit 0) (.e (.lit 0) (.l (.var 2) .nil))))))))))))))
  (.fin (.e (.lit 1) (.e (.lit 1) (.l (.lit []) .nil))))))
theorem vc30 : vcLf ⟨c30, [(5, ⟨1, [28], [], [29, 30, 31, 32, 7, 8, 33, 34, 35, 36, 37, 38, 39, 9, 10, 40, 41, 42, 43, 44, 45, 46, 47, 48, 49, 50, 51, 52], [⟨(-9223372036854775808), 9223372036854775807⟩], [2], []⟩), (8, ⟨2, [35], [], [36, 37, 38, 39, 9, 10, 40, 41, 42, 43, 44, 45, 46, 47, 48, 49, 50, 51, 31], [⟨(-9223372036854775808), 9223372036854775807⟩], [2], []⟩)]⟩ iv30 (parLvs s30.params) 250 Try.f30 s30 = t30 := by kernel_rfl
set_option linter.unusedVariables false in
def p30 (T : Tab) (I : Nat → Env → Env → Prop) (M : Nat → Env → Env → Nat) (pre : Nat → List Int → List (List Int) → Prop) (post : List Int → List (List Int) → Prop) (l0 l1 : List Int) : Prop :=
 ∀ v0 : Int, [v0] = T.outL 15 1 [] [l0] →
 ((decide ((v0 : Int) = 1) = true →
  ∀ v1 : Int, [v1] = T.outL 15 1 [] [l1] →
  (((!decide ((v1 : Int) = 1)) = true →
   post [1, 1] [([] : List Int)]) ∧ ((!decide ((v1 : Int) = 1)) = false →
   ((decide ((0 : Int) ≤ (IntKind.wrap .i64 ((IntKind.wrap .i64 ((List.length l0 : Int) + (List.length l1 : Int))) - 1))) = true ∧ decide (((IntKind.wrap .i64 ((IntKind.wrap .i64 ((List.length l0 : Int) + (List.length l1 : Int))) - 1)) : Int) ≤ (IntKind.wrap .i64 ((IntKind.wrap .i64 ((List.length l0 : Int) + (List.length l1 : Int))) - 1))) = true ∧ decide (((IntKind.wrap .i64 ((IntKind.wrap .i64 ((List.length l0 : Int) + (List.length l1 : Int))) - 1)) : Int) ≤ 1099511627776) = true) ∧ ((decide ((0 : Int) ≤ (IntKind.wrap .i64 ((IntKind.wrap .i64 ((List.length l0 : Int) + (List.length l1 : Int))) - 1))) = true ∧ decide (((IntKind.wrap .i64 ((IntKind.wrap .i64 ((List.length l0 : Int) + (List.length l1 : Int))) - 1)) : Int) ≤ (IntKind.wrap .i64 ((IntKind.wrap .i64 ((List.length l0 : Int) + (List.length l1 : Int))) - 1))) = true ∧ decide (((IntKind.wrap .i64 ((IntKind.wrap .i64 ((List.length l0 : Int) + (List.length l1 : Int))) - 1)) : Int) ≤ 1099511627776) = true) →
   ((allHas [⟨(-9223372036854775808), 9223372036854775807⟩] [0] ∧ I 1 ⟨[v0, v1], [l0, l1]⟩ ⟨[0], [(List.replicate (Int.toNat ((IntKind.wrap .i64 ((IntKind.wrap .i64 ((List.length l0 : Int) + (List.length l1 : Int))) - 1)) * 1)) (0 : Int))]⟩) ∧ ∀ v2 : Int, ∀ l2 : List Int, allHas [⟨(-9223372036854775808), 9223372036854775807⟩] [v2] → allL [(⟨(-9223372036854775808), 9223372036854775807⟩, 9223372036854775807)] [l2] → I 1 ⟨[v0, v1], [l0, l1]⟩ ⟨[v2], [l2]⟩ →
    ((decide ((v2 : Int) < (List.length l0 : Int)) = true →
     ((decide ((0 : Int) ≤ v2) = true ∧ decide ((v2 : Int) < (List.length l0 : Int)) = true) ∧ ((decide ((0 : Int) ≤ v2) = true ∧ decide ((v2 : Int) < (List.length l0 : Int)) = true) →
     ((decide (((0 + v2) : Int) < (List.length l0 : Int)) = true) ∧ ((decide (((0 + v2) : Int) < (List.length l0 : Int)) = true) →
     ∀ v3 : Int, v3 = (List.getD l0 (Int.toNat (0 + v2)) 0) →
     ((allHas [⟨(-9223372036854775808), 9223372036854775807⟩] [0] ∧ I 2 ⟨[v0, v1, v2, v3], [l0, l1, l2]⟩ ⟨[0], [l2]⟩) ∧ ∀ v4 : Int, ∀ l3 : List Int, allHas [⟨(-9223372036854775808), 9223372036854775807⟩] [v4] → allL [(⟨(-9223372036854775808), 9223372036854775807⟩, 9223372036854775807)] [l3] → I 2 ⟨[v0, v1, v2, v3], [l0, l1, l2]⟩ ⟨[v4], [l3]⟩ →
      ((decide ((v4 : Int) < (List.length l1 : Int)) = true →
       ((decide ((0 : Int) ≤ v4) = true ∧ decide ((v4 : Int) < (List.length l1 : Int)) = true) ∧ ((decide ((0 : Int) ≤ v4) = true ∧ decide ((v4 : Int) < (List.length l1 : Int)) = true) →
       ((decide (((0 + v4) : Int) < (List.length l1 : Int)) = true) ∧ ((decide (((0 + v4) : Int) < (List.length l1 : Int)) = true) →
       ∀ v5 : Int, v5 = (List.getD l1 (Int.toNat (0 + v4)) 0) →
       ((decide (((List.length (List.replicate (Int.toNat ((IntKind.wrap .i64 ((IntKind.wrap .i64 ((List.length l0 : Int) + (List.length l1 : Int))) - 1)) * 1)) (0 : Int)) : Int) : Int) = (List.length l3 : Int)) = true) ∧ ((decide (((List.length (List.replicate (Int.toNat ((IntKind.wrap .i64 ((IntKind.wrap .i64 ((List.length l0 : Int) + (List.length l1 : Int))) - 1)) * 1)) (0 : Int)) : Int) : Int) = (List.length l3 : Int)) = true) →
       ((decide ((0 : Int) ≤ (IntKind.wrap .i64 (v2 + v4))) = true ∧ decide (((IntKind.wrap .i64 (v2 + v4)) : Int) < (List.length l3 : Int)) = true) ∧ ((decide ((0 : Int) ≤ (IntKind.wrap .i64 (v2 + v4))) = true ∧ decide (((IntKind.wrap .i64 (v2 + v4)) : Int) < (List.length l3 : Int)) = true) →
       ((decide (((0 + (IntKind.wrap .i64 (v2 + v4))) : Int) < (List.length l3 : Int)) = true) ∧ ((decide (((0 + (IntKind.wrap .i64 (v2 + v4))) : Int) < (List.length l3 : Int)) = true) →
       ∀ v6 : Int, v6 = (List.getD l3 (Int.toNat (0 + (IntKind.wrap .i64 (v2 + v4)))) 0) →
       ((decide ((0 : Int) ≤ (IntKind.wrap .i64 (v2 + v4))) = true ∧ decide (((IntKind.wrap .i64 (v2 + v4)) : Int) < (List.length l3 : Int)) = true) ∧ ((decide ((0 : Int) ≤ (IntKind.wrap .i64 (v2 + v4))) = true ∧ decide (((IntKind.wrap .i64 (v2 + v4)) : Int) < (List.length l3 : Int)) = true) →
       ((decide (((0 + (IntKind.wrap .i64 (v2 + v4))) : Int) < (List.length l3 : Int)) = true) ∧ ((decide (((0 + (IntKind.wrap .i64 (v2 + v4))) : Int) < (List.length l3 : Int)) = true) →
       (allHas [⟨(-9223372036854775808), 9223372036854775807⟩] [(IntKind.wrap .i64 (v4 + 1))] ∧ I 2 ⟨[v0, v1, v2, v3], [l0, l1, l2]⟩ ⟨[(IntKind.wrap .i64 (v4 + 1))], [(List.set l3 (Int.toNat (0 + (IntKind.wrap .i64 (v2 + v4)))) (IntKind.wrap .i64 (v6 + (IntKind.wrap .i64 (v3 * v5)))))]⟩ ∧ M 2 ⟨[v0, v1, v2, v3], [l0, l1, l2]⟩ ⟨[(IntKind.wrap .i64 (v4 + 1))], [(List.set l3 (Int.toNat (0 + (IntKind.wrap .i64 (v2 + v4)))) (IntKind.wrap .i64 (v6 + (IntKind.wrap .i64 (v3 * v5)))))]⟩ < M 2 ⟨[v0, v1, v2, v3], [l0, l1, l2]⟩ ⟨[v4], [l3]⟩)))))))))))))))) ∧ (decide ((v4 : Int) < (List.length l1 : Int)) = false →
       (allHas [⟨(-9223372036854775808), 9223372036854775807⟩] [(IntKind.wrap .i64 (v2 + 1))] ∧ I 1 ⟨[v0, v1], [l0, l1]⟩ ⟨[(IntKind.wrap .i64 (v2 + 1))], [l3]⟩ ∧ M 1 ⟨[v0, v1], [l0, l1]⟩ ⟨[(IntKind.wrap .i64 (v2 + 1))], [l3]⟩ < M 1 ⟨[v0, v1], [l0, l1]⟩ ⟨[v2], [l2]⟩))))))))) ∧ (decide ((v2 : Int) < (List.length l0 : Int)) = false →
     ((decide (((List.length (List.replicate (Int.toNat ((IntKind.wrap .i64 ((IntKind.wrap .i64 ((List.length l0 : Int) + (List.length l1 : Int))) - 1)) * 1)) (0 : Int)) : Int) : Int) = (List.length l2 : Int)) = true) ∧ ((decide (((List.length (List.replicate (Int.toNat ((IntKind.wrap .i64 ((IntKind.wrap .i64 ((List.length l0 : Int) + (List.length l1 : Int))) - 1)) * 1)) (0 : Int)) : Int) : Int) = (List.length l2 : Int)) = true) →
     ∀ v3 : Int, [v3] = T.outL 15 1 [] [l2] →
     (((!decide ((v3 : Int) = 1)) = true →
      post [1, 3] [([] : List Int)]) ∧ ((!decide ((v3 : Int) = 1)) = false →
      ((decide (((List.length (List.replicate (Int.toNat ((IntKind.wrap .i64 ((IntKind.wrap .i64 ((List.length l0 : Int) + (List.length l1 : Int))) - 1)) * 1)) (0 : Int)) : Int) : Int) = (List.length l2 : Int)) = true) ∧ ((decide (((List.length (List.replicate (Int.toNat ((IntKind.wrap .i64 ((IntKind.wrap .i64 ((List.length l0 : Int) + (List.length l1 : Int))) - 1)) * 1)) (0 : Int)) : Int) : Int) = (List.length l2 : Int)) = true) →
      ((decide (((List.length l2 : Int) : Int) = (List.length l2 : Int)) = true ∧ decide (((List.length l2 : Int) : Int) ≤ 1099511627776) = true) ∧ ((decide (((List.length l2 : Int) : Int) = (List.length l2 : Int)) = true ∧ decide (((List.length l2 : Int) : Int) ≤ 1099511627776) = true) →
      post [0, 0] [l2])))))))))))))))) ∧ (decide ((v0 : Int) = 1) = false →
  post [1, 1] [([] : List Int)]))
theorem q30 (T : Tab) (I : Nat → Env → Env → Prop) (M : Nat → Env → Env → Nat) (pre : Nat → List Int → List (List Int) → Prop) (post : List Int → List (List Int) → Prop) (l0 l1 : List Int) : t30.plain T (presG pre I M) post ⟨[], [l0, l1]⟩ = p30 T I M pre post l0 l1 := by kernel_rfl
theorem k30 (T : Tab) (I : Nat → Env → Env → Prop) (M : Nat → Env → Env → Nat) (pre : Nat → List Int → List (List Int) → Prop) (hs : SubSig T c30.sigs) (ht : TotG pre c30.sigs) (hC : CtAll Try.prog T.fns (presQ pre) c30.sigs) (hk : CpAll Try.prog c30.cps) (hi : ∀ xs ls, allHas (parIvs s30.params) xs → pre 30 xs ls → allHas iv30 xs)
    (h : ∀ (l0 l1 : List Int), allHas iv30 [] → allL (parLvs s30.params) [l0, l1] → pre 30 [] [l0, l1] → p30 T I M pre (fun ys zs => T.fns 30 [] [l0, l1] = (ys, zs)) l0 l1) : CTL Try.prog T.fns (presQ pre) 30 s30 :=
  T.ctl (F := ⟨c30, [(5, ⟨1, [28], [], [29, 30, 31, 32, 7, 8, 33, 34, 35, 36, 37, 38, 39, 9, 10, 40, 41, 42, 43, 44, 45, 46, 47, 48, 49, 50, 51, 52], [⟨(-9223372036854775808), 9223372036854775807⟩], [2], []⟩), (8, ⟨2, [35], [], [36, 37, 38, 39, 9, 10, 40, 41, 42, 43, 44, 45, 46, 47, 48, 49, 50, 51, 31], [⟨(-9223372036854775808), 9223372036854775807⟩], [2], []⟩)]⟩) (fuel := 250) vc30 Try.checked.mixed hs ht hC hk Try.func30 I M (fun xs ls h1 h2 h3 => ⟨hi xs ls h1 h3, h2⟩) fun xs ls hx hl hp => by
    match xs, ls, hx, hl, hp with
    | [], [l0, l1], hx, hl, hp => rw [q30]; exact h l0 l1 hx hl hp
/-- loop.example/g01242/laws.FnExactTimesPoly -/
def s8 : Sig := ⟨[.lst [.i64], .lst [.i64]], [(false, [.b])], true⟩
noncomputable def c8 : Cfg := ⟨Try.prog, [(16, s16), (28, s28)], [(14, s14, y14)], [(29, s29), (30, s30)], [(27, s27)]⟩
def iv8 : List Iv := []
def t8 : VC :=
 (.ite (.lt (.lit 1048576) (.len (.var 0)))
  (.fin (.e (.lit 1) .nil))
  (.ite (.lt (.lit 1048576) (.len (.var 1)))
   (.fin (.e (.lit 1) .nil))
   (.need [(.b (.le (.len (.var 0)) (.lit 1099511627776)))]
   (.need [(.b (.le (.len (.var 1)) (.lit 1099511627776)))]
   (.calll 29 (.l (.var 0) (.l (.var 1) .nil)) [⟨0, 1⟩, ⟨(-9223372036854775808), 9223372036854775807⟩] [(⟨(-9223372036854775808), 9223372036854775807⟩, 1099511627776)]
   (.ite (.eq (.var 0) (.lit 1))
    (.need [(.b (.le (.len (.var 0)) (.lit 1099511627776)))]
    (.need [(.b (.le (.len (.var 1)) (.lit 1099511627776)))]
    (.calll 30 (.l (.var 0) (.l (.var 1) .nil)) [⟨0, 1⟩, ⟨(-9223372036854775808), 9223372036854775807⟩] [(⟨(-9223372036854775808), 9223372036854775807⟩, 1099511627776)]
    (.ite (.eq (.var 2) (.lit 1))
     (.call 16 (.l (.lit []) (.l (.lit []) .nil)) 1
     (.ite (.eq (.var 4) (.lit 1))
      (.ite (.not (.eq (.var 3) (.var 1)))
       (.fin (.e (.lit 0) .nil))
       (.need [(.b (.le (.len (.var 0)) (.lit 1099511627776)))]
       (.call 16 (.l (.var 0) (.l (.var 0) .nil)) 1
       (.ite (.not (.eq (.var 5) (.lit 1)))
        (.fin (.e (.lit 0) .nil))
        (.need [(.b (.le (.len (.var 1)) (.lit 1099511627776)))]
        (.call 16 (.l (.var 1) (.l (.var 1) .nil)) 1
        (.ite (.not (.eq (.var 6) (.lit 1)))
         (.fin (.e (.lit 0) .nil))
         (.need [(.pre 27 (.l (.var 0) (.e (.lit 1) .nil)))]
         (.calll 27 (.l (.var 0) (.e (.lit 1) .nil)) [⟨(-9223372036854775808), 9223372036854775807⟩] [(⟨(-9223372036854775808), 9223372036854775807⟩, 9223372036854775807)]
         (.need [(.pre 27 (.l (.var 1) (.e (.var 7) .nil)))]
         (.calll 27 (.l (.var 1) (.e (.var 7) .nil)) [⟨(-9223372036854775808), 9223372036854775807⟩] [(⟨(-9223372036854775808), 9223372036854775807⟩, 9223372036854775807)]
         (.ite (.le (.lit 0) (.var 8))
          (.call 16 (.l (.lit []) (.l (.lit []) .nil)) 1
          (.ite (.eq (.var 9) (.lit 1))
           (.need [(.pre 27 (.l (.lit []) (.e (.lit 1) .nil)))]
           (.calll 27 (.l (.lit []) (.e (.lit 1) .nil)) [⟨(-9223372036854775808), 9223372036854775807⟩] [(⟨(-9223372036854775808), 9223372036854775807⟩, 9223372036854775807)]
           (.need [(.pre 28 (.l (.lit []) (.e (.lit 1) .nil)))]
           (.call 28 (.l (.lit []) (.e (.lit 1) .nil)) 1
           (.ite (.lt (.var 11) (.lit 0))
            (.fin (.e (.lit 0) .nil))
            (.ite (.not (.eq (.var 11) (.var 10)))
             (.fin (.e (.lit 0) .nil))
             (.need [(.b (.le (.len (.var 0)) (.lit 1099511627776)))]
             (.need [(.b (.le (.len (.var 1)) (.lit 1099511627776)))]
             (.calll 30 (.l (.var 0) (.l (.var 1) .nil)) [⟨0, 1⟩, ⟨(-9223372036854775808), 9223372036854775807⟩] [(⟨(-9223372036854775808), 9223372036854775807⟩, 1099511627776)]
             (.ite (.eq (.var 12) (.lit 1))
              (.call 16 (.l (.lit []) (.l (.lit []) .nil)) 1
              (.ite (.eq (.var 14) (.lit 1))
               (.ite (.not (.eq (.var 13) (.var 1)))
                (.fin (.e (.lit 0) .nil))
                (.need [(.pre 28 (.l (.lit []) (.e (.lit 1) .nil)))]
                (.call 28 (.l (.lit []) (.e (.lit 1) .nil)) 1
                (.ite (.lt (.var 15) (.lit 0))
                 (.fin (.e (.lit 0) .nil))
                 (.ite (.not (.eq (.var 15) (.var 10)))
                  (.fin (.e (.lit 0) .nil))
                  (.fin (.e (.lit 1) .nil)))))))
               (.fin (.e (.lit 0) .nil))))
              (.call 16 (.l (.var 7) (.l (.lit []) .nil)) 1
              (.ite (.eq (.var 14) (.lit 1))
               (.ite (.not (.eq (.var 13) (.var 1)))
                (.fin (.e (.lit 0) .nil))
                (.need [(.pre 28 (.l (.lit []) (.e (.lit 1) .nil)))]
                (.call 28 (.l (.lit []) (.e (.lit 1) .nil)) 1
                (.ite (.lt (.var 15) (.lit 0))
                 (.fin (.e (.lit 0) .nil))
                 (.ite (.not (.eq (.var 15) (.var 10)))
                  (.fin (.e (.lit 0) .nil))
                  (.fin (.e (.lit 1) .nil)))))))
               (.fin (.e (.lit 0) .nil))))))))))))))
           (.fin (.e (.lit 0) .nil))))
          (.fin (.e (.lit 0) .nil))))))))))))))
      (.fin (.e (.lit 0) .nil))))
     (.call 16 (.l (.var 3) (.l (.lit []) .nil)) 1
     (.ite (.eq (.var 4) (.lit 1))
      (.ite (.not (.eq (.var 3) (.var 1)))
       (.fin (.e (.lit 0) .nil))
       (.need [(.b (.le (.len (.var 0)) (.lit 1099511627776)))]
       (.call 16 (.l (.var 0) (.l (.var 0) .nil)) 1
       (.ite (.not (.eq (.var 5) (.lit 1)))
        (.fin (.e (.lit 0) .nil))
        (.need [(.b (.le (.len (.var 1)) (.lit 1099511627776)))]
        (.call 16 (.l (.var 1) (.l (.var 1) .nil)) 1
        (.ite (.not (.eq (.var 6) (.lit 1)))
         (.fin (.e (.lit 0) .nil))
         (.need [(.pre 27 (.l (.var 0) (.e (.lit 1) .nil)))]
         (.calll 27 (.l (.var 0) (.e (.lit 1) .nil)) [⟨(-9223372036854775808), 9223372036854775807⟩] [(⟨(-9223372036854775808), 9223372036854775807⟩, 9223372036854775807)]
         (.need [(.pre 27 (.l (.var 1) (.e (.var 7) .nil)))]
         (.calll 27 (.l (.var 1) (.e (.var 7) .nil)) [⟨(-9223372036854775808), 9223372036854775807⟩] [(⟨(-9223372036854775808), 9223372036854775807⟩, 9223372036854775807)]
         (.ite (.le (.lit 0) (.var 8))
          (.call 16 (.l (.var 3) (.l (.lit []) .nil)) 1
          (.ite (.eq (.var 9) (.lit 1))
           (.need [(.pre 27 (.l (.var 3) (.e (.lit 1) .nil)))]
           (.calll 27 (.l (.var 3) (.e (.lit 1) .nil)) [⟨(-9223372036854775808), 9223372036854775807⟩] [(⟨(-9223372036854775808), 9223372036854775807⟩, 9223372036854775807)]
           (.need [(.pre 28 (.l (.var 6) (.e (.lit 1) .nil)))]
           (.call 28 (.l (.var 6) (.e (.lit 1) .nil)) 1
           (.ite (.lt (.var 11) (.lit 0))
            (.fin (.e (.lit 0) .nil))
            (.ite (.not (.eq (.var 11) (.var 10)))
             (.fin (.e (.lit 0) .nil))
             (.need [(.b (.le (.len (.var 0)) (.lit 1099511627776)))]
             (.need [(.b (.le (.len (.var 1)) (.lit 1099511627776)))]
             (.calll 30 (.l (.var 0) (.l (.var 1) .nil)) [⟨0, 1⟩, ⟨(-9223372036854775808), 9223372036854775807⟩] [(⟨(-9223372036854775808), 9223372036854775807⟩, 1099511627776)]
             (.ite (.eq (.var 12) (.lit 1))
              (.call 16 (.l (.lit []) (.l (.lit []) .nil)) 1
              (.ite (.eq (.var 14) (.lit 1))
               (.ite (.not (.eq (.var 13) (.var 1)))
                (.fin (.e (.lit 0) .nil))
                (.need [(.pre 28 (.l (.var 6) (.e (.lit 1) .nil)))]
                (.call 28 (.l (.var 6) (.e (.lit 1) .nil)) 1
                (.ite (.lt (.var 15) (.lit 0))
                 (.fin (.e (.lit 0) .nil))
                 (.ite (.not (.eq (.var 15) (.var 10)))
                  (.fin (.e (.lit 0) .nil))
                  (.fin (.e (.lit 1) .nil)))))))
               (.fin (.e (.lit 0) .nil))))
              (.call 16 (.l (.var 7) (.l (.lit []) .nil)) 1
              (.ite (.eq (.var 14) (.lit 1))
               (.ite (.not (.eq (.var 13) (.var 1)))
                (.fin (.e (.lit 0) .nil))
                (.need [(.pre 28 (.l (.var 6) (.e (.lit 1) .nil)))]
                (.call 28 (.l (.var 6) (.e (.lit 1) .nil)) 1
                (.ite (.lt (.var 15) (.lit 0))
                 (.fin (.e (.lit 0) .nil))
                 (.ite (.not (.eq (.var 15) (.var 10)))
                  (.fin (.e (.lit 0) .nil))
                  (.fin (.e (.lit 1) .nil)))))))
               (.fin (.e (.lit 0) .nil))))))))))))))
           (.fin (.e (.lit 0) .nil))))
          (.fin (.e (.lit 0) .nil))))))))))))))
      (.fin (.e (.lit 0) .nil))))))))
    (.need [(.b (.le (.len (.var 0)) (.lit 1099511627776)))]
    (.need [(.b (.le (.len (.var 1)) (.lit 1099511627776)))]
    (.calll 30 (.l (.var 0) (.l (.var 1) .nil)) [⟨0, 1⟩, ⟨(-9223372036854775808), 9223372036854775807⟩] [(⟨(-9223372036854775808), 9223372036854775807⟩, 1099511627776)]
    (.ite (.eq (.var 2) (.lit 1))
     (.call 16 (.l (.lit []) (.l (.var 2) .nil)) 1
     (.ite (.eq (.var 4) (.lit 1))
      (.ite (.not (.eq (.var 3) (.var 1)))
       (.fin (.e (.lit 0) .nil))
       (.need [(.b (.le (.len (.var 0)) (.lit 1099511627776)))]
       (.call 16 (.l (.var 0) (.l (.var 0) .nil)) 1
       (.ite (.not (.eq (.var 5) (.lit 1)))
        (.fin (.e (.lit 0) .nil))
        (.need [(.b (.le (.len (.var 1)) (.lit 1099511627776)))]
        (.call 16 (.l (.var 1) (.l (.var 1) .nil)) 1
        (.ite (.not (.eq (.var 6) (.lit 1)))
         (.fin (.e (.lit 0) .nil))
         (.need [(.pre 27 (.l (.var 0) (.e (.lit 1) .nil)))]
         (.calll 27 (.l (.var 0) (.e (.lit 1) .nil)) [⟨(-9223372036854775808), 9223372036854775807⟩] [(⟨(-9223372036854775808), 9223372036854775807⟩, 9223372036854775807)]
         (.need [(.pre 27 (.l (.var 1) (.e (.var 7) .nil)))]
         (.calll 27 (.l (.var 1) (.e (.var 7) .nil)) [⟨(-9223372036854775808), 9223372036854775807⟩] [(⟨(-9223372036854775808), 9223372036854775807⟩, 9223372036854775807)]
         (.ite (.le (.lit 0) (.var 8))
          (.call 16 (.l (.lit []) (.l (.var 2) .nil)) 1
          (.ite (.eq (.var 9) (.lit 1))
           (.need [(.pre 27 (.l (.lit []) (.e (.lit 1) .nil)))]
           (.calll 27 (.l (.lit []) (.e (.lit 1) .nil)) [⟨(-9223372036854775808), 9223372036854775807⟩] [(⟨(-9223372036854775808), 9223372036854775807⟩, 9223372036854775807)]
           (.need [(.pre 28 (.l (.lit []) (.e (.lit 1) .nil)))]
           (.call 28 (.l (.lit []) (.e (.lit 1) .nil)) 1
           (.ite (.lt (.var 11) (.lit 0))
            (.fin (.e (.lit 0) .nil))
            (.ite (.not (.eq (.var 11) (.var 10)))
             (.fin (.e (.lit 0) .nil))
             (.need [(.b (.le (.len (.var 0)) (.lit 1099511627776)))]
             (.need [(.b (.le (.len (.var 1)) (.lit 1099511627776)))]
             (.calll 30 (.l (.var 0) (.l (.var 1) .nil)) [⟨0, 1⟩, ⟨(-9223372036854775808), 9223372036854775807⟩] [(⟨(-9223372036854775808), 9223372036854775807⟩, 1099511627776)]
             (.ite (.eq (.var 12) (.lit 1))
              (.call 16 (.l (.lit []) (.l (.var 2) .nil)) 1
              (.ite (.eq (.var 14) (.lit 1))
               (.ite (.not (.eq (.var 13) (.var 1)))
                (.fin (.e (.lit 0) .nil))
                (.need [(.pre 28 (.l (.lit []) (.e (.lit 1) .nil)))]
                (.call 28 (.l (.lit []) (.e (.lit 1) .nil)) 1
                (.ite (.lt (.var 15) (.lit 0))
                 (.fin (.e (.lit 0) .nil))
                 (.ite (.not (.eq (.var 15) (.var 10)))
                  (.fin (.e (.lit 0) .nil))
                  (.fin (.e (.lit 1) .nil)))))))
               (.fin (.e (.lit 0) .nil))))
              (.call 16 (.l (.var 7) (.l (.var 2) .nil)) 1
              (.ite (.eq (.var 14) (.lit 1))
               (.ite (.not (.eq (.var 13) (.var 1)))
                (.fin (.e (.lit 0) .nil))
                (.need [(.pre 28 (.l (.lit []) (.e (.lit 1) .nil)))]
                (.call 28 (.l (.lit []) (.e (.lit 1) .nil)) 1
                (.ite (.lt (.var 15) (.lit 0))
                 (.fin (.e (.lit 0) .nil))
                 (.ite (.not (.eq (.var 15) (.var 10)))
                  (.fin (.e (.lit 0) .nil))
                  (.fin (.e (.lit 1) .nil)))))))
               (.fin (.e (.lit 0) .nil))))))))))))))
           (.fin (.e (.lit 0) .nil))))
          (.fin (.e (.lit 0) .nil))))))))))))))
      (.fin (.e (.lit 0) .nil))))
     (.call 16 (.l (.var 3) (.l (.var 2) .nil)) 1
     (.ite (.eq (.var 4) (.lit 1))
      (.ite (.not (.eq (.var 3) (.var 1)))
       (.fin (.e (.lit 0) .nil))
       (.need [(.b (.le (.len (.var 0)) (.lit 1099511627776)))]
       (.call 16 (.l (.var 0) (.l (.var 0) .nil)) 1
       (.ite (.not (.eq (.var 5) (.lit 1)))
        (.fin (.e (.lit 0) .nil))
        (.need [(.b (.le (.len (.var 1)) (.lit 1099511627776)))]
        (.call 16 (.l (.var 1) (.l (.var 1) .nil)) 1
        (.ite (.not (.eq (.var 6) (.lit 1)))
         (.fin (.e (.lit 0) .nil))
         (.need [(.pre 27 (.l (.var 0) (.e (.lit 1) .nil)))]
         (.calll 27 (.l (.var 0) (.e (.lit 1) .nil)) [⟨(-9223372036854775808), 9223372036854775807⟩] [(⟨(-9223372036854775808), 9223372036854775807⟩, 9223372036854775807)]
         (.need [(.pre 27 (.l (.var 1) (.e (.var 7) .nil)))]
         (.calll 27 (.l (.var 1) (.e (.var 7) .nil)) [⟨(-9223372036854775808), 9223372036854775807⟩] [(⟨(-9223372036854775808), 9223372036854775807⟩, 9223372036854775807)]
         (.ite (.le (.lit 0) (.var 8))
          (.call 16 (.l (.var 3) (.l (.var 2) .nil)) 1
          (.ite (.eq (.var 9) (.lit 1))
           (.need [(.pre 27 (.l (.var 3) (.e (.lit 1) .nil)))]
           (.calll 27 (.l (.var 3) (.e (.lit 1) .nil)) [⟨(-9223372036854775808), 9223372036854775807⟩] [(⟨(-9223372036854775808), 9223372036854775807⟩, 9223372036854775807)]
           (.need [(.pre 28 (.l (.var 6) (.e (.lit 1) .nil)))]
           (.call 28 (.l (.var 6) (.e (.lit 1) .nil)) 1
           (.ite (.lt (.var 11) (.lit 0))
            (.fin (.e (.lit 0) .nil))
            (.ite (.not (.eq (.var 11) (.var 10)))
             (.fin (.e (.lit 0) .nil))
             (.need [(.b (.le (.len (.var 0)) (.lit 1099511627776)))]
             (.need [(.b (.le (.len (.var 1)) (.lit 1099511627776)))]
             (.calll 30 (.l (.var 0) (.l (.var 1) .nil)) [⟨0, 1⟩, ⟨(-9223372036854775808), 9223372036854775807⟩] [(⟨(-9223372036854775808), 9223372036854775807⟩, 1099511627776)]
             (.ite (.eq (.var 12) (.lit 1))
              (.call 16 (.l (.lit []) (.l (.var 2) .nil)) 1
              (.ite (.eq (.var 14) (.lit 1))
               (.ite (.not (.eq (.var 13) (.var 1)))
                (.fin (.e (.lit 0) .nil))
                (.need [(.pre 28 (.l (.var 6) (.e (.lit 1) .nil)))]
                (.call 28 (.l (.var 6) (.e (.lit 1) .nil)) 1
                (.ite (.lt (.var 15) (.lit 0))
                 (.fin (.e (.lit 0) .nil))
                 (.ite (.not (.eq (.var 15) (.var 10)))
                  (.fin (.e (.lit 0) .nil))
                  (.fin (.e (.lit 1) .nil)))))))
               (.fin (.e (.lit 0) .nil))))
              (.call 16 (.l (.var 7) (.l (.var 2) .nil)) 1
              (.ite (.eq (.var 14) (.lit 1))
               (.ite (.not (.eq (.var 13) (.var 1)))
                (.fin (.e (.lit 0) .nil))
                (.need [(.pre 28 (.l (.var 6) (.e (.lit 1) .nil)))]
                (.call 28 (.l (.var 6) (.e (.lit 1) .nil)) 1
                (.ite (.lt (.var 15) (.lit 0))
                 (.fin (.e (.lit 0) .nil))
                 (.ite (.not (.eq (.var 15) (.var 10)))
                  (.fin (.e (.lit 0) .nil))
                  (.fin (.e (.lit 1) .nil)))))))
               (.fin (.e (.lit 0) .nil))))))))))))))
           (.fin (.e (.lit 0) .nil))))
          (.fin (.e (.lit 0) .nil))))))))))))))
      (.fin (.e (.lit 0) .nil))))))))))))))
theorem vc8 : vcOfI ⟨c8, []⟩ iv8 (parLvs s8.params) 250 Try.f8 s8 = t8 := by kernel_rfl
set_option linter.unusedVariables false in
def p8 (T : Tab) (I : Nat → Env → Env → Prop) (M : Nat → Env → Env → Nat) (pre : Nat → List Int → List (List Int) → Prop) (post : List Int → List (List Int) → Prop) (l0 l1 : List Int) : Prop :=
 ((decide ((1048576 : Int) < (List.length l0 : Int)) = true →
  post [1] []) ∧ (decide ((1048576 : Int) < (List.length l0 : Int)) = false →
  ((decide ((1048576 : Int) < (List.length l1 : Int)) = true →
   post [1] []) ∧ (decide ((1048576 : Int) < (List.length l1 : Int)) = false →
   ((decide (((List.length l0 : Int) : Int) ≤ 1099511627776) = true) ∧ ((decide (((List.length l0 : Int) : Int) ≤ 1099511627776) = true) →
   ((decide (((List.length l1 : Int) : Int) ≤ 1099511627776) = true) ∧ ((decide (((List.length l1 : Int) : Int) ≤ 1099511627776) = true) →
   ∀ v0 v1 : Int, ∀ l2 : List Int, allHas [⟨0, 1⟩, ⟨(-9223372036854775808), 9223372036854775807⟩] [v0, v1] → allL [(⟨(-9223372036854775808), 9223372036854775807⟩, 1099511627776)] [l2] → ([v0, v1], [l2]) = T.fns 29 [] [l0, l1] →
   ((decide ((v0 : Int) = 1) = true →
    ((decide (((List.length l0 : Int) : Int) ≤ 1099511627776) = true) ∧ ((decide (((List.length l0 : Int) : Int) ≤ 1099511627776) = true) →
    ((decide (((List.length l1 : Int) : Int) ≤ 1099511627776) = true) ∧ ((decide (((List.length l1 : Int) : Int) ≤ 1099511627776) = true) →
    ∀ v2 v3 : Int, ∀ l3 : List Int, allHas [⟨0, 1⟩, ⟨(-9223372036854775808), 9223372036854775807⟩] [v2, v3] → allL [(⟨(-9223372036854775808), 9223372036854775807⟩, 1099511627776)] [l3] → ([v2, v3], [l3]) = T.fns 30 [] [l0, l1] →
    ((decide ((v2 : Int) = 1) = true →
     ∀ v4 : Int, [v4] = T.outL 16 1 [] [([] : List Int), ([] : List Int)] →
     ((decide ((v4 : Int) = 1) = true →
      (((!decide ((v3 : Int) = v1)) = true →
       post [0] []) ∧ ((!decide ((v3 : Int) = v1)) = false →
       ((decide (((List.length l0 : Int) : Int) ≤ 1099511627776) = true) ∧ ((decide (((List.length l0 : Int) : Int) ≤ 1099511627776) = true) →
       ∀ v5 : Int, [v5] = T.outL 16 1 [] [l0, l0] →
       (((!decide ((v5 : Int) = 1)) = true →
        post [0] []) ∧ ((!decide ((v5 : Int) = 1)) = false →
        ((decide (((List.length l1 : Int) : Int) ≤ 1099511627776) = true) ∧ ((decide (((List.length l1 : Int) : Int) ≤ 1099511627776) = true) →
        ∀ v6 : Int, [v6] = T.outL 16 1 [] [l1, l1] →
        (((!decide ((v6 : Int) = 1)) = true →
         post [0] []) ∧ ((!decide ((v6 : Int) = 1)) = false →
         ((pre 27 [1] [l0]) ∧ ((pre 27 [1] [l0]) →
         ∀ v7 : Int, ∀ l4 : List Int, allHas [⟨(-9223372036854775808), 9223372036854775807⟩] [v7] → allL [(⟨(-9223372036854775808), 9223372036854775807⟩, 9223372036854775807)] [l4] → ([v7], [l4]) = T.fns 27 [1] [l0] →
         ((pre 27 [v7] [l1]) ∧ ((pre 27 [v7] [l1]) →
         ∀ v8 : Int, ∀ l5 : List Int, allHas [⟨(-9223372036854775808), 9223372036854775807⟩] [v8] → allL [(⟨(-9223372036854775808), 9223372036854775807⟩, 9223372036854775807)] [l5] → ([v8], [l5]) = T.fns 27 [v7] [l1] →
         ((decide ((0 : Int) ≤ v8) = true →
          ∀ v9 : Int, [v9] = T.outL 16 1 [] [([] : List Int), ([] : List Int)] →
          ((decide ((v9 : Int) = 1) = true →
           ((pre 27 [1] [([] : List Int)]) ∧ ((pre 27 [1] [([] : List Int)]) →
           ∀ v10 : Int, ∀ l6 : List Int, allHas [⟨(-9223372036854775808), 9223372036854775807⟩] [v10] → allL [(⟨(-9223372036854775808), 9223372036854775807⟩, 9223372036854775807)] [l6] → ([v10], [l6]) = T.fns 27 [1] [([] : List Int)] →
           ((pre 28 [1] [([] : List Int)]) ∧ ((pre 28 [1] [([] : List Int)]) →
           ∀ v11 : Int, [v11] = T.outL 28 1 [1] [([] : List Int)] →
           ((decide ((v11 : Int) < 0) = true →
            post [0] []) ∧ (decide ((v11 : Int) < 0) = false →
            (((!decide ((v11 : Int) = v10)) = true →
             post [0] []) ∧ ((!decide ((v11 : Int) = v10)) = false →
             ((decide (((List.length l0 : Int) : Int) ≤ 1099511627776) = true) ∧ ((decide (((List.length l0 : Int) : Int) ≤ 1099511627776) = true) →
             ((decide (((List.length l1 : Int) : Int) ≤ 1099511627776) = true) ∧ ((decide (((List.length l1 : Int) : Int) ≤ 1099511627776) = true) →
             ∀ v12 v13 : Int, ∀ l7 : List Int, allHas [⟨0, 1⟩, ⟨(-9223372036854775808), 9223372036854775807⟩] [v12, v13] → allL [(⟨(-9223372036854775808), 9223372036854775807⟩, 1099511627776)] [l7] → ([v12, v13], [l7]) = T.fns 30 [] [l0, l1] →
             ((decide ((v12 : Int) = 1) = true →
              ∀ v14 : Int, [v14] = T.outL 16 1 [] [([] : List Int), ([] : List Int)] →
              ((decide ((v14 : Int) = 1) = true →
               (((!decide ((v13 : Int) = v1)) = true →
                post [0] []) ∧ ((!decide ((v13 : Int) = v1)) = false →
                ((pre 28 [1] [([] : List Int)]) ∧ ((pre 28 [1] [([] : List Int)]) →
                ∀ v15 : Int, [v15] = T.outL 28 1 [1] [([] : List Int)] →
                ((decide ((v15 : Int) < 0) = true →
                 post [0] []) ∧ (decide ((v15 : Int) < 0) = false →
                 (((!decide ((v15 : Int) = v10)) = true →
                  post [0] []) ∧ ((!decide ((v15 : Int) = v10)) = false →
                  post [1] []))))))))) ∧ (decide ((v14 : Int) = 1) = false →
               post [0] []))) ∧ (decide ((v12 : Int) = 1) = false →
              ∀ v14 : Int, [v14] = T.outL 16 1 [] [l7, ([] : List Int)] →
              ((decide ((v14 : Int) = 1) = true →
               (((!decide ((v13 : Int) = v1)) = true →
                post [0] []) ∧ ((!decide ((v13 : Int) = v1)) = false →
                ((pre 28 [1] [([] : List Int)]) ∧ ((pre 28 [1] [([] : List Int)]) →
                ∀ v15 : Int, [v15] = T.outL 28 1 [1] [([] : List Int)] →
                ((decide ((v15 : Int) < 0) = true →
                 post [0] []) ∧ (decide ((v15 : Int) < 0) = false →
                 (((!decide ((v15 : Int) = v10)) = true →
                  post [0] []) ∧ ((!decide ((v15 : Int) = v10)) = false →
                  post [1] []))))))))) ∧ (decide ((v14 : Int) = 1) = false →
               post [0] []))))))))))))))))) ∧ (decide ((v9 : Int) = 1) = false →
           post [0] []))) ∧ (decide ((0 : Int) ≤ v8) = false →
          post [0] []))))))))))))))))) ∧ (decide ((v4 : Int) = 1) = false →
      post [0] []))) ∧ (decide ((v2 : Int) = 1) = false →
     ∀ v4 : Int, [v4] = T.outL 16 1 [] [l3, ([] : List Int)] →
     ((decide ((v4 : Int) = 1) = true →
      (((!decide ((v3 : Int) = v1)) = true →
       post [0] []) ∧ ((!decide ((v3 : Int) = v1)) = false →
       ((decide (((List.length l0 : Int) : Int) ≤ 1099511627776) = true) ∧ ((decide (((List.length l0 : Int) : Int) ≤ 1099511627776) = true) →
       ∀ v5 : Int, [v5] = T.outL 16 1 [] [l0, l0] →
       (((!decide ((v5 : Int) = 1)) = true →
        post [0] []) ∧ ((!decide ((v5 : Int) = 1)) = false →
        ((decide (((List.length l1 : Int) : Int) ≤ 1099511627776) = true) ∧ ((decide (((List.length l1 : Int) : Int) ≤ 1099511627776) = true) →
        ∀ v6 : Int, [v6] = T.outL 16 1 [] [l1, l1] →
        (((!decide ((v6 : Int) = 1)) = true →
         post [0] []) ∧ ((!decide ((v6 : Int) = 1)) = false →
         ((pre 27 [1] [l0]) ∧ ((pre 27 [1] [l0]) →
         ∀ v7 : Int, ∀ l4 : List Int, allHas [⟨(-9223372036854775808), 9223372036854775807⟩] [v7] → allL [(⟨(-9223372036854775808), 9223372036854775807⟩, 9223372036854775807)] [l4] → ([v7], [l4]) = T.fns 27 [1] [l0] →
         ((pre 27 [v7] [l1]) ∧ ((pre 27 [v7] [l1]) →
         ∀ v8 : Int, ∀ l5 : List Int, allHas [⟨(-9223372036854775808), 9223372036854775807⟩] [v8] → allL [(⟨(-9223372036854775808), 9223372036854775807⟩, 9223372036854775807)] [l5] → ([v8], [l5]) = T.fns 27 [v7] [l1] →
         ((decide ((0 : Int) ≤ v8) = true →
          ∀ v9 : Int, [v9] = T.outL 16 1 [] [l3, ([] : List Int)] →
          ((decide ((v9 : Int) = 1) = true →
           ((pre 27 [1] [l3]) ∧ ((pre 27 [1] [l3]) →
           ∀ v10 : Int, ∀ l6 : List Int, allHas [⟨(-9223372036854775808), 9223372036854775807⟩] [v10] → allL [(⟨(-9223372036854775808), 9223372036854775807⟩, 9223372036854775807)] [l6] → ([v10], [l6]) = T.fns 27 [1] [l3] →
           ((pre 28 [1] [l6]) ∧ ((pre 28 [1] [l6]) →
           ∀ v11 : Int, [v11] = T.outL 28 1 [1] [l6] →
           ((decide ((v11 : Int) < 0) = true →
            post [0] []) ∧ (decide ((v11 : Int) < 0) = false →
            (((!decide ((v11 : Int) = v10)) = true →
             post [0] []) ∧ ((!decide ((v11 : Int) = v10)) = false →
             ((decide (((List.length l0 : Int) : Int) ≤ 1099511627776) = true) ∧ ((decide (((List.length l0 : Int) : Int) ≤ 1099511627776) = true) →
             ((decide (((List.length l1 : Int) : Int) ≤ 1099511627776) = true) ∧ ((decide (((List.length l1 : Int) : Int) ≤ 1099511627776) = true) →
             ∀ v12 v13 : Int, ∀ l7 : List Int, allHas [⟨0, 1⟩, ⟨(-9223372036854775808), 9223372036854775807⟩] [v12, v13] → allL [(⟨(-9223372036854775808), 9223372036854775807⟩, 1099511627776)] [l7] → ([v12, v13], [l7]) = T.fns 30 [] [l0, l1] →
             ((decide ((v12 : Int) = 1) = true →
              ∀ v14 : Int, [v14] = T.outL 16 1 [] [([] : List Int), ([] : List Int)] →
              ((decide ((v14 : Int) = 1) = true →
               (((!decide ((v13 : Int) = v1)) = true →
                post [0] []) ∧ ((!decide ((v13 : Int) = v1)) = false →
                ((pre 28 [1] [l6]) ∧ ((pre 28 [1] [l6]) →
                ∀ v15 : Int, [v15] = T.outL 28 1 [1] [l6] →
                ((decide ((v15 : Int) < 0) = true →
                 post [0] []) ∧ (decide ((v15 : Int) < 0) = false →
                 (((!decide ((v15 : Int) = v10)) = true →
                  post [0] []) ∧ ((!decide ((v15 : Int) = v10)) = false →
                  post [1] []))))))))) ∧ (decide ((v14 : Int) = 1) = false →
               post [0] []))) ∧ (decide ((v12 : Int) = 1) = false →
              ∀ v14 : Int, [v14] = T.outL 16 1 [] [l7, ([] : List Int)] →
              ((decide ((v14 : Int) = 1) = true →
               (((!decide ((v13 : Int) = v1)) = true →
                post [0] []) ∧ ((!decide ((v13 : Int) = v1)) = false →
                ((pre 28 [1] [l6]) ∧ ((pre 28 [1] [l6]) →
                ∀ v15 : Int, [v15] = T.outL 28 1 [1] [l6] →
                ((decide ((v15 : Int) < 0) = true →
                 post [0] []) ∧ (decide ((v15 : Int) < 0) = false →
                 (((!decide ((v15 : Int) = v10)) = true →
                  post [0] []) ∧ ((!decide ((v15 : Int) = v10)) = false →
                  post [1] []))))))))) ∧ (decide ((v14 : Int) = 1) = false →
               post [0] []))))))))))))))))) ∧ (decide ((v9 : Int) = 1) = false →
           post [0] []))) ∧ (decide ((0 : Int) ≤ v8) = false →
          post [0] []))))))))))))))))) ∧ (decide ((v4 : Int) = 1) = false →
      post [0] []))))))))) ∧ (decide ((v0 : Int) = 1) = false →
    ((decide (((List.length l0 : Int) : Int) ≤ 1099511627776) = true) ∧ ((decide (((List.length l0 : Int) : Int) ≤ 1099511627776) = true) →
    ((decide (((List.length l1 : Int) : Int) ≤ 1099511627776) = true) ∧ ((decide (((List.length l1 : Int) : Int) ≤ 1099511627776) = true) →
    ∀ v2 v3 : Int, ∀ l3 : List Int, allHas [⟨0, 1⟩, ⟨(-9223372036854775808), 9223372036854775807⟩] [v2, v3] → allL [(⟨(-9223372036854775808), 9223372036854775807⟩, 1099511627776)] [l3] → ([v2, v3], [l3]) = T.fns 30 [] [l0, l1] →
    ((decide ((v2 : Int) = 1) = true →
     ∀ v4 : Int, [v4] = T.outL 16 1 [] [([] : List Int), l2] →
     ((decide ((v4 : Int) = 1) = true →
      (((!decide ((v3 : Int) = v1)) = true →
       post [0] []) ∧ ((!decide ((v3 : Int) = v1)) = false →
       ((decide (((List.length l0 : Int) : Int) ≤ 1099511627776) = true) ∧ ((decide (((List.length l0 : Int) : Int) ≤ 1099511627776) = true) →
       ∀ v5 : Int, [v5] = T.outL 16 1 [] [l0, l0] →
       (((!decide ((v5 : Int) = 1)) = true →
        post [0] []) ∧ ((!decide ((v5 : Int) = 1)) = false →
        ((decide (((List.length l1 : Int) : Int) ≤ 1099511627776) = true) ∧ ((decide (((List.length l1 : Int) : Int) ≤ 1099511627776) = true) →
        ∀ v6 : Int, [v6] = T.outL 16 1 [] [l1, l1] →
        (((!decide ((v6 : Int) = 1)) = true →
         post [0] []) ∧ ((!decide ((v6 : Int) = 1)) = false →
         ((pre 27 [1] [l0]) ∧ ((pre 27 [1] [l0]) →
         ∀ v7 : Int, ∀ l4 : List Int, allHas [⟨(-9223372036854775808), 9223372036854775807⟩] [v7] → allL [(⟨(-9223372036854775808), 9223372036854775807⟩, 9223372036854775807)] [l4] → ([v7], [l4]) = T.fns 27 [1] [l0] →
         ((pre 27 [v7] [l1]) ∧ ((pre 27 [v7] [l1]) →
         ∀ v8 : Int, ∀ l5 : List Int, allHas [⟨(-9223372036854775808), 9223372036854775807⟩] [v8] → allL [(⟨(-9223372036854775808), 9223372036854775807⟩, 9223372036854775807)] [l5] → ([v8], [l5]) = T.fns 27 [v7] [l1] →
         ((decide ((0 : Int) ≤ v8) = true →
          ∀ v9 : Int, [v9] = T.outL 16 1 [] [([] : List Int), l2] →
          ((decide ((v9 : Int) = 1) = true →
           ((pre 27 [1] [([] : List Int)]) ∧ ((pre 27 [1] [([] : List Int)]) →
           ∀ v10 : Int, ∀ l6 : List Int, allHas [⟨(-9223372036854775808), 9223372036854775807⟩] [v10] → allL [(⟨(-9223372036854775808), 9223372036854775807⟩, 9223372036854775807)] [l6] → ([v10], [l6]) = T.fns 27 [1] [([] : List Int)] →
           ((pre 28 [1] [([] : List Int)]) ∧ ((pre 28 [1] [([] : List Int)]) →
           ∀ v11 : Int, [v11] = T.outL 28 1 [1] [([] : List Int)] →
           ((decide ((v11 : Int) < 0) = true →
            post [0] []) ∧ (decide ((v11 : Int) < 0) = false →
            (((!decide ((v11 : Int) = v10)) = true →
             post [0] []) ∧ ((!decide ((v11 : Int) = v10)) = false →
             ((decide (((List.length l0 : Int) : Int) ≤ 1099511627776) = true) ∧ ((decide (((List.length l0 : Int) : Int) ≤ 1099511627776) = true) →
             ((decide (((List.length l1 : Int) : Int) ≤ 1099511627776) = true) ∧ ((decide (((List.length l1 : Int) : Int) ≤ 1099511627776) = true) →
             ∀ v12 v13 : Int, ∀ l7 : List Int, allHas [⟨0, 1⟩, ⟨(-9223372036854775808), 9223372036854775807⟩] [v12, v13] → allL [(⟨(-9223372036854775808), 9223372036854775807⟩, 1099511627776)] [l7] → ([v12, v13], [l7]) = T.fns 30 [] [l0, l1] →
             ((decide ((v12 : Int) = 1) = true →
              ∀ v14 : Int, [v14] = T.outL 16 1 [] [([] : List Int), l2] →
              ((decide ((v14 : Int) = 1) = true →
               (((!decide ((v13 : Int) = v1)) = true →
                post [0] []) ∧ ((!decide ((v13 : Int) = v1)) = false →
                ((pre 28 [1] [([] : List Int)]) ∧ ((pre 28 [1] [([] : List Int)]) →
                ∀ v15 : Int, [v15] = T.outL 28 1 [1] [([] : List Int)] →
                ((decide ((v15 : Int) < 0) = true →
                 post [0] []) ∧ (decide ((v15 : Int) < 0) = false →
                 (((!decide ((v15 : Int) = v10)) = true →
                  post [0] []) ∧ ((!decide ((v15 : Int) = v10)) = false →
                  post [1] []))))))))) ∧ (decide ((v14 : Int) = 1) = false →
               post [0] []))) ∧ (decide ((v12 : Int) = 1) = false →
              ∀ v14 : Int, [v14] = T.outL 16 1 [] [l7, l2] →
              ((decide ((v14 : Int) = 1) = true →
               (((!decide ((v13 : Int) = v1)) = true →
                post [0] []) ∧ ((!decide ((v13 : Int) = v1)) = false →
                ((pre 28 [1] [([] : List Int)]) ∧ ((pre 28 [1] [([] : List Int)]) →
                ∀ v15 : Int, [v15] = T.outL 28 1 [1] [([] : List Int)] →
                ((decide ((v15 : Int) < 0) = true →
                 post [0] []) ∧ (decide ((v15 : Int) < 0) = false →
                 (((!decide ((v15 : Int) = v10)) = true →
                  post [0] []) ∧ ((!decide ((v15 : Int) = v10)) = false →
                  post [1] []))))))))) ∧ (decide ((v14 : Int) = 1) = false →
               post [0] []))))))))))))))))) ∧ (decide ((v9 : Int) = 1) = false →
           post [0] []))) ∧ (decide ((0 : Int) ≤ v8) = false →
          post [0] []))))))))))))))))) ∧ (decide ((v4 : Int) = 1) = false →
      post [0] []))) ∧ (decide ((v2 : Int) = 1) = false →
     ∀ v4 : Int, [v4] = T.outL 16 1 [] [l3, l2] →
     ((decide ((v4 : Int) = 1) = true →
      (((!decide ((v3 : Int) = v1)) = true →
       post [0] []) ∧ ((!decide ((v3 : Int) = v1)) = false →
       ((decide (((List.length l0 : Int) : Int) ≤ 1099511627776) = true) ∧ ((decide (((List.length l0 : Int) : Int) ≤ 1099511627776) = true) →
       ∀ v5 : Int, [v5] = T.outL 16 1 [] [l0, l0] →
       (((!decide ((v5 : Int) = 1)) = true →
        post [0] []) ∧ ((!decide ((v5 : Int) = 1)) = false →
        ((decide (((List.length l1 : Int) : Int) ≤ 1099511627776) = true) ∧ ((decide (((List.length l1 : Int) : Int) ≤ 1099511627776) = true) →
        ∀ v6 : Int, [v6] = T.outL 16 1 [] [l1, l1] →
        (((!decide ((v6 : Int) = 1)) = true →
         post [0] []) ∧ ((!decide ((v6 : Int) = 1)) = false →
         ((pre 27 [1] [l0]) ∧ ((pre 27 [1] [l0]) →
         ∀ v7 : Int, ∀ l4 : List Int, allHas [⟨(-9223372036854775808), 9223372036854775807⟩] [v7] → allL [(⟨(-9223372036854775808), 9223372036854775807⟩, 9223372036854775807)] [l4] → ([v7], [l4]) = T.fns 27 [1] [l0] →
         ((pre 27 [v7] [l1]) ∧ ((pre 27 [v7] [l1]) →
         ∀ v8 : Int, ∀ l5 : List Int, allHas [⟨(-9223372036854775808), 9223372036854775807⟩] [v8] → allL [(⟨(-9223372036854775808), 9223372036854775807⟩, 9223372036854775807)] [l5] → ([v8], [l5]) = T.fns 27 [v7] [l1] →
         ((decide ((0 : Int) ≤ v8) = true →
          ∀ v9 : Int, [v9] = T.outL 16 1 [] [l3, l2] →
          ((decide ((v9 : Int) = 1) = true →
           ((pre 27 [1] [l3]) ∧ ((pre 27 [1] [l3]) →
           ∀ v10 : Int, ∀ l6 : List Int, allHas [⟨(-9223372036854775808), 9223372036854775807⟩] [v10] → allL [(⟨(-9223372036854775808), 9223372036854775807⟩, 9223372036854775807)] [l6] → ([v10], [l6]) = T.fns 27 [1] [l3] →
           ((pre 28 [1] [l6]) ∧ ((pre 28 [1] [l6]) →
           ∀ v11 : Int, [v11] = T.outL 28 1 [1] [l6] →
           ((decide ((v11 : Int) < 0) = true →
            post [0] []) ∧ (decide ((v11 : Int) < 0) = false →
            (((!decide ((v11 : Int) = v10)) = true →
             post [0] []) ∧ ((!decide ((v11 : Int) = v10)) = false →
             ((decide (((List.length l0 : Int) : Int) ≤ 1099511627776) = true) ∧ ((decide (((List.length l0 : Int) : Int) ≤ 1099511627776) = true) →
             ((decide (((List.length l1 : Int) : Int) ≤ 1099511627776) = true) ∧ ((decide (((List.length l1 : Int) : Int) ≤ 1099511627776) = true) →
             ∀ v12 v13 : Int, ∀ l7 : List Int, allHas [⟨0, 1⟩, ⟨(-9223372036854775808), 9223372036854775807⟩] [v12, v13] → allL [(⟨(-9223372036854775808), 9223372036854775807⟩, 1099511627776)] [l7] → ([v12, v13], [l7]) = T.fns 30 [] [l0, l1] →
             ((decide ((v12 : Int) = 1) = true →
              ∀ v14 : Int, [v14] = T.outL 16 1 [] [([] : List Int), l2] →
              ((decide ((v14 : Int) = 1) = true →
               (((!decide ((v13 : Int) = v1)) = true →
                post [0] []) ∧ ((!decide ((v13 : Int) = v1)) = false →
                ((pre 28 [1] [l6]) ∧ ((pre 28 [1] [l6]) →
                ∀ v15 : Int, [v15] = T.outL 28 1 [1] [l6] →
                ((decide ((v15 : Int) < 0) = true →
                 post [0] []) ∧ (decide ((v15 : Int) < 0) = false →
                 (((!decide ((v15 : Int) = v10)) = true →
                  post [0] []) ∧ ((!decide ((v15 : Int) = v10)) = false →
                  post [1] []))))))))) ∧ (decide ((v14 : Int) = 1) = false →
               post [0] []))) ∧ (decide ((v12 : Int) = 1) = false →
              ∀ v14 : Int, [v14] = T.outL 16 1 [] [l7, l2] →
              ((decide ((v14 : Int) = 1) = true →
               (((!decide ((v13 : Int) = v1)) = true →
                post [0] []) ∧ ((!decide ((v13 : Int) = v1)) = false →
                ((pre 28 [1] [l6]) ∧ ((pre 28 [1] [l6]) →
                ∀ v15 : Int, [v15] = T.outL 28 1 [1] [l6] →
                ((decide ((v15 : Int) < 0) = true →
                 post [0] []) ∧ (decide ((v15 : Int) < 0) = false →
                 (((!decide ((v15 : Int) = v10)) = true →
                  post [0] []) ∧ ((!decide ((v15 : Int) = v10)) = false →
                  post [1] []))))))))) ∧ (decide ((v14 : Int) = 1) = false →
               post [0] []))))))))))))))))) ∧ (decide ((v9 : Int) = 1) = false →
           post [0] []))) ∧ (decide ((0 : Int) ≤ v8) = false →
          post [0] []))))))))))))))))) ∧ (decide ((v4 : Int) = 1) = false →
      post [0] []))))))))))))))))))
theorem q8 (T : Tab) (I : Nat → Env → Env → Prop) (M : Nat → Env → Env → Nat) (pre : Nat → List Int → List (List Int) → Prop) (post : List Int → List (List Int) → Prop) (l0 l1 : List Int) : t8.plain T (presG pre I M) post ⟨[], [l0, l1]⟩ = p8 T I M pre post l0 l1 := by kernel_rfl
theorem k8 (T : Tab) (I : Nat → Env → Env → Prop) (M : Nat → Env → Env → Nat) (pre : Nat → List Int → List (List Int) → Prop) (hs : SubSig T c8.sigs) (ht : TotG pre c8.sigs) (hg : T.sig 8 = some s8) (hC : CtAll Try.prog T.fns (presQ pre) c8.sigs) (hk : CpAll Try.prog c8.cps) (hlf : LfAll Try.prog T.fns (presQ pre) c8.lfs) (hwf : WfAll Try.prog T.fns (presQ pre) c8.wfs) (hi : ∀ xs ls, allHas (parIvs s8.params) xs → pre 8 xs ls → allHas iv8 xs)
    (h : ∀ (l0 l1 : List Int), allHas iv8 [] → allL (parLvs s8.params) [l0, l1] → pre 8 [] [l0, l1] → p8 T I M pre (fun ys _ => ys = T.app 8 [] [l0, l1]) l0 l1) : CT Try.prog T.fns (presQ pre) 8 s8 :=
  T.ctg (hlf := hlf) (hwf := hwf) (F := ⟨c8, []⟩) (fuel := 250) vc8 Try.checked.mixed hs ht hg hC hk Try.func8 I M (fun xs ls h1 h2 h3 => ⟨hi xs ls h1 h3, h2⟩) fun xs ls hx hl hp => by
    match xs, ls, hx, hl, hp with
    | [], [l0, l1], hx, hl, hp => rw [q8]; exact h l0 l1 hx hl hp
end Go.Proofs.Ytfpodondpanmaaa.Sx
