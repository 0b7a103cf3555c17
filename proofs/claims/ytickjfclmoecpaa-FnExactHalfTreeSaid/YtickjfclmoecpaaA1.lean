import Derived.Test.YtickjfclmoecpaaSxX
import Derived.Test.YtickjfclmoecpaaChecked
import Derived.KernelRfl
namespace Go.Proofs.Ytickjfclmoecpaa.Sx
open Go Go.RowKit
/-- loop.example/g01242/laws.toInt16A3 -/
def s82 : Sig := ⟨[.val true [.i .i16, .i .i16, .i .i16]], [(true, [.i .i16, .i .i16, .i .i16])], true⟩
noncomputable def c82 : Cfg := ⟨Try.prog, [], [], [], [], [], []⟩
def iv82 : List Iv := [⟨(-32768), 32767⟩, ⟨(-32768), 32767⟩, ⟨(-32768), 32767⟩]
def t82 : VC :=
 (.fin (.e (.var 0) (.e (.var 1) (.e (.var 2) .nil))))
theorem vc82 : vcOfI ⟨c82, []⟩ iv82 (parLvs s82.params) 250 Try.f82 s82 = t82 := by kernel_rfl
set_option linter.unusedVariables false in
def p82 (T : Tab) (I : Nat → Env → Env → Prop) (M : Nat → Env → Env → Nat) (pre : Nat → List Int → List (List Int) → Prop) (post : List Int → List (List Int) → Prop) (v0 v1 v2 : Int) : Prop :=
 post [v0, v1, v2] []
theorem q82 (T : Tab) (I : Nat → Env → Env → Prop) (M : Nat → Env → Env → Nat) (pre : Nat → List Int → List (List Int) → Prop) (post : List Int → List (List Int) → Prop) (v0 v1 v2 : Int) : t82.plain T (presG pre I M) post ⟨[v0, v1, v2], []⟩ = p82 T I M pre post v0 v1 v2 := by kernel_rfl
theorem k82 (T : Tab) (I : Nat → Env → Env → Prop) (M : Nat → Env → Env → Nat) (pre : Nat → List Int → List (List Int) → Prop) (hs : SubSig T c82.sigs) (ht : TotG pre c82.sigs) (hg : T.sig 82 = some s82) (hC : CtAll Try.prog T.fns (presQ pre) c82.sigs) (hk : CpAll Try.prog c82.cps) (hi : ∀ xs ls, allHas (parIvs s82.params) xs → pre 82 xs ls → allHas iv82 xs)
    (h : ∀ (v0 v1 v2 : Int), allHas iv82 [v0, v1, v2] → allL (parLvs s82.params) [] → pre 82 [v0, v1, v2] [] → p82 T I M pre (fun ys _ => ys = T.app 82 [v0, v1, v2] []) v0 v1 v2) : CT Try.prog T.fns (presQ pre) 82 s82 :=
  T.ctg (F := ⟨c82, []⟩) (fuel := 250) vc82 Try.checked.mixed hs ht hg hC hk Try.func82 I M (fun xs ls h1 h2 h3 => ⟨hi xs ls h1 h3, h2⟩) fun xs ls hx hl hp => by
    match xs, ls, hx, hl, hp with
    | [v0, v1, v2], [], hx, hl, hp => rw [q82]; exact h v0 v1 v2 hx hl hp
/-- loop.example/g01242/laws.toFork -/
def s71 : Sig := ⟨[.val true [.i .i8, .i .i8, .i .i16, .i .i16, .i .i16]], [(true, [.i .i8, .i .i8, .i .i16, .i .i16, .i .i16])], true⟩
noncomputable def c71 : Cfg := ⟨Try.prog, [(82, s82)], [], [], [], [], []⟩
def iv71 : List Iv := [⟨(-128), 127⟩, ⟨(-128), 127⟩, ⟨(-32768), 32767⟩, ⟨(-32768), 32767⟩, ⟨(-32768), 32767⟩]
def t71 : VC :=
 (.call 82 (.e (.var 2) (.e (.var 3) (.e (.var 4) .nil))) 3
 (.fin (.e (.var 0) (.e (.var 1) (.e (.var 5) (.e (.var 6) (.e (.var 7) .nil)))))))
theorem vc71 : vcOfI ⟨c71, []⟩ iv71 (parLvs s71.params) 250 Try.f71 s71 = t71 := by kernel_rfl
set_option linter.unusedVariables false in
def p71 (T : Tab) (I : Nat → Env → Env → Prop) (M : Nat → Env → Env → Nat) (pre : Nat → List Int → List (List Int) → Prop) (post : List Int → List (List Int) → Prop) (v0 v1 v2 v3 v4 : Int) : Prop :=
 ∀ v5 v6 v7 : Int, [v5, v6, v7] = T.out 82 3 [v2, v3, v4] →
 post [v0, v1, v5, v6, v7] []
theorem q71 (T : Tab) (I : Nat → Env → Env → Prop) (M : Nat → Env → Env → Nat) (pre : Nat → List Int → List (List Int) → Prop) (post : List Int → List (List Int) → Prop) (v0 v1 v2 v3 v4 : Int) : t71.plain T (presG pre I M) post ⟨[v0, v1, v2, v3, v4], []⟩ = p71 T I M pre post v0 v1 v2 v3 v4 := by kernel_rfl
theorem k71 (T : Tab) (I : Nat → Env → Env → Prop) (M : Nat → Env → Env → Nat) (pre : Nat → List Int → List (List Int) → Prop) (hs : SubSig T c71.sigs) (ht : TotG pre c71.sigs) (hg : T.sig 71 = some s71) (hC : CtAll Try.prog T.fns (presQ pre) c71.sigs) (hk : CpAll Try.prog c71.cps) (hi : ∀ xs ls, allHas (parIvs s71.params) xs → pre 71 xs ls → allHas iv71 xs)
    (h : ∀ (v0 v1 v2 v3 v4 : Int), allHas iv71 [v0, v1, v2, v3, v4] → allL (parLvs s71.params) [] → pre 71 [v0, v1, v2, v3, v4] [] → p71 T I M pre (fun ys _ => ys = T.app 71 [v0, v1, v2, v3, v4] []) v0 v1 v2 v3 v4) : CT Try.prog T.fns (presQ pre) 71 s71 :=
  T.ctg (F := ⟨c71, []⟩) (fuel := 250) vc71 Try.checked.mixed hs ht hg hC hk Try.func71 I M (fun xs ls h1 h2 h3 => ⟨hi xs ls h1 h3, h2⟩) fun xs ls hx hl hp => by
    match xs, ls, hx, hl, hp with
    | [v0, v1, v2, v3, v4], [], hx, hl, hp => rw [q71]; exact h v0 v1 v2 v3 v4 hx hl hp
/-- loop.example/g01242/laws.toForkS -/
def s44 : PSh := .lst [.i8, .i8, .i16, .i16, .i16]
def y44 : List TypeId := [60]
noncomputable def c44 : Cfg := ⟨Try.prog, [(71, s71)], [], [], [], [], []⟩
def t44 : VC :=
 (.need [(.b (.le (.div (.len (.var 0)) (.lit 5)) (.div (.len (.var 0)) (.lit 5))))]
 (.loop 1 [(.lit 0)] [(.zeros (.mul (.div (.len (.var 0)) (.lit 5)) (.lit 5)))] [⟨(-9223372036854775808), 9223372036854775807⟩] [(⟨(-32768), 32767⟩, 9223372036854775807)]
  (.ite (.lt (.var 0) (.div (.len (.var 0)) (.lit 5)))
   (.need [(.b (.eq (.div (.len (.zeros (.mul (.div (.len (.var 0)) (.lit 5)) (.lit 5)))) (.lit 5)) (.div (.len (.var 1)) (.lit 5))))]
   (.need [(.b (.le (.lit 0) (.var 0))), (.b (.lt (.var 0) (.div (.len (.var 0)) (.lit 5))))]
   (.need [(.b (.lt (.add (.mul (.add (.lit 0) (.var 0)) (.lit 5)) (.lit 4)) (.len (.var 0))))]
   (.bind (.wrap .i8 (.at (.var 0) (.mul (.add (.lit 0) (.var 0)) (.lit 5))))
   (.bind (.wrap .i8 (.at (.var 0) (.add (.mul (.add (.lit 0) (.var 0)) (.lit 5)) (.lit 1))))
   (.bind (.at (.var 0) (.add (.mul (.add (.lit 0) (.var 0)) (.lit 5)) (.lit 2)))
   (.bind (.at (.var 0) (.add (.mul (.add (.lit 0) (.var 0)) (.lit 5)) (.lit 3)))
   (.bind (.at (.var 0) (.add (.mul (.add (.lit 0) (.var 0)) (.lit 5)) (.lit 4)))
   (.call 71 (.e (.var 1) (.e (.var 2) (.e (.var 3) (.e (.var 4) (.e (.var 5) .nil))))) 5
   (.need [(.b (.le (.lit 0) (.var 0))), (.b (.lt (.var 0) (.div (.len (.var 1)) (.lit 5))))]
   (.need [(.b (.lt (.add (.mul (.add (.lit 0) (.var 0)) (.lit 5)) (.lit 4)) (.len (.var 1))))]
   (.bind (.wrap .i64 (.add (.var 0) (.lit 1)))
   (.again 1 0 1 [⟨(-9223372036854775808), 9223372036854775807⟩] [(.var 11)] [(.set (.set (.set (.set (.set (.var 1) (.mul (.add (.lit 0) (.var 0)) (.lit 5)) (.var 6)) (.add (.mul (.add (.lit 0) (.var 0)) (.lit 5)) (.lit 1)) (.var 7)) (.add (.mul (.add (.lit 0) (.var 0)) (.lit 5)) (.lit 2)) (.var 8)) (.add (.mul (.add (.lit 0) (.var 0)) (.lit 5)) (.lit 3)) (.var 9)) (.add (.mul (.add (.lit 0) (.var 0)) (.lit 5)) (.lit 4)) (.var 10))])))))))))))))
   (.need [(.b (.eq (.div (.len (.zeros (.mul (.div (.len (.var 0)) (.lit 5)) (.lit 5)))) (.lit 5)) (.div (.len (.var 1)) (.lit 5))))]
   (.need [(.b (.eq (.div (.len (.var 1)) (.lit 5)) (.div (.len (.var 1)) (.lit 5))))]
   (.fin (.l (.var 1) .nil)))))))
theorem vc44 : vcCp ⟨c44, [(3, ⟨1, [4], [], [8, 9, 10, 11, 14, 15, 16, 17, 18, 19, 20, 21, 12, 13], [⟨(-9223372036854775808), 9223372036854775807⟩], [1], []⟩)]⟩ 250 Try.f44 s44 y44 = t44 := by kernel_rfl
set_option linter.unusedVariables false in
def p44 (T : Tab) (I : Nat → Env → Env → Prop) (M : Nat → Env → Env → Nat) (pre : Nat → List Int → List (List Int) → Prop) (post : List Int → List (List Int) → Prop) (l0 : List Int) : Prop :=
 ((decide ((((List.length l0 : Int) / 5) : Int) ≤ ((List.length l0 : Int) / 5)) = true) ∧ ((decide ((((List.length l0 : Int) / 5) : Int) ≤ ((List.length l0 : Int) / 5)) = true) →
 ((allHas [⟨(-9223372036854775808), 9223372036854775807⟩] [0] ∧ I 1 ⟨[], [l0]⟩ ⟨[0], [(List.replicate (Int.toNat (((List.length l0 : Int) / 5) * 5)) (0 : Int))]⟩) ∧ ∀ v0 : Int, ∀ l1 : List Int, allHas [⟨(-9223372036854775808), 9223372036854775807⟩] [v0] → allL [(⟨(-32768), 32767⟩, 9223372036854775807)] [l1] → I 1 ⟨[], [l0]⟩ ⟨[v0], [l1]⟩ →
  ((decide ((v0 : Int) < ((List.length l0 : Int) / 5)) = true →
   ((decide ((((List.length (List.replicate (Int.toNat (((List.length l0 : Int) / 5) * 5)) (0 : Int)) : Int) / 5) : Int) = ((List.length l1 : Int) / 5)) = true) ∧ ((decide ((((List.length (List.replicate (Int.toNat (((List.length l0 : Int) / 5) * 5)) (0 : Int)) : Int) / 5) : Int) = ((List.length l1 : Int) / 5)) = true) →
   ((decide ((0 : Int) ≤ v0) = true ∧ decide ((v0 : Int) < ((List.length l0 : Int) / 5)) = true) ∧ ((decide ((0 : Int) ≤ v0) = true ∧ decide ((v0 : Int) < ((List.length l0 : Int) / 5)) = true) →
   ((decide (((((0 + v0) * 5) + 4) : Int) < (List.length l0 : Int)) = true) ∧ ((decide (((((0 + v0) * 5) + 4) : Int) < (List.length l0 : Int)) = true) →
   ∀ v1 : Int, v1 = (IntKind.wrap .i8 (List.getD l0 (Int.toNat ((0 + v0) * 5)) 0)) →
   ∀ v2 : Int, v2 = (IntKind.wrap .i8 (List.getD l0 (Int.toNat (((0 + v0) * 5) + 1)) 0)) →
   ∀ v3 : Int, v3 = (List.getD l0 (Int.toNat (((0 + v0) * 5) + 2)) 0) →
   ∀ v4 : Int, v4 = (List.getD l0 (Int.toNat (((0 + v0) * 5) + 3)) 0) →
   ∀ v5 : Int, v5 = (List.getD l0 (Int.toNat (((0 + v0) * 5) + 4)) 0) →
   ∀ v6 v7 v8 v9 v10 : Int, [v6, v7, v8, v9, v10] = T.out 71 5 [v1, v2, v3, v4, v5] →
   ((decide ((0 : Int) ≤ v0) = true ∧ decide ((v0 : Int) < ((List.length l1 : Int) / 5)) = true) ∧ ((decide ((0 : Int) ≤ v0) = true ∧ decide ((v0 : Int) < ((List.length l1 : Int) / 5)) = true) →
   ((decide (((((0 + v0) * 5) + 4) : Int) < (List.length l1 : Int)) = true) ∧ ((decide (((((0 + v0) * 5) + 4) : Int) < (List.length l1 : Int)) = true) →
   ∀ v11 : Int, v11 = (IntKind.wrap .i64 (v0 + 1)) →
   (allHas [⟨(-9223372036854775808), 9223372036854775807⟩] [v11] ∧ I 1 ⟨[], [l0]⟩ ⟨[v11], [(List.set (List.set (List.set (List.set (List.set l1 (Int.toNat ((0 + v0) * 5)) v6) (Int.toNat (((0 + v0) * 5) + 1)) v7) (Int.toNat (((0 + v0) * 5) + 2)) v8) (Int.toNat (((0 + v0) * 5) + 3)) v9) (Int.toNat (((0 + v0) * 5) + 4)) v10)]⟩ ∧ M 1 ⟨[], [l0]⟩ ⟨[v11], [(List.set (List.set (List.set (List.set (List.set l1 (Int.toNat ((0 + v0) * 5)) v6) (Int.toNat (((0 + v0) * 5) + 1)) v7) (Int.toNat (((0 + v0) * 5) + 2)) v8) (Int.toNat (((0 + v0) * 5) + 3)) v9) (Int.toNat (((0 + v0) * 5) + 4)) v10)]⟩ < M 1 ⟨[], [l0]⟩ ⟨[v0], [l1]⟩)))))))))))) ∧ (decide ((v0 : Int) < ((List.length l0 : Int) / 5)) = false →
   ((decide ((((List.length (List.replicate (Int.toNat (((List.length l0 : Int) / 5) * 5)) (0 : Int)) : Int) / 5) : Int) = ((List.length l1 : Int) / 5)) = true) ∧ ((decide ((((List.length (List.replicate (Int.toNat (((List.length l0 : Int) / 5) * 5)) (0 : Int)) : Int) / 5) : Int) = ((List.length l1 : Int) / 5)) = true) →
   ((decide ((((List.length l1 : Int) / 5) : Int) = ((List.length l1 : Int) / 5)) = true) ∧ ((decide ((((List.length l1 : Int) / 5) : Int) = ((List.length l1 : Int) / 5)) = true) →
   post [] [l1])))))))))
theorem q44 (T : Tab) (I : Nat → Env → Env → Prop) (M : Nat → Env → Env → Nat) (pre : Nat → List Int → List (List Int) → Prop) (post : List Int → List (List Int) → Prop) (l0 : List Int) : t44.plain T (presG pre I M) post ⟨[], [l0]⟩ = p44 T I M pre post l0 := by kernel_rfl
theorem k44 (T : Tab) (I : Nat → Env → Env → Prop) (M : Nat → Env → Env → Nat) (pre : Nat → List Int → List (List Int) → Prop) (hs : SubSig T c44.sigs) (ht : TotG pre c44.sigs) (hC : CtAll Try.prog T.fns (presQ pre) c44.sigs) (hk : CpAll Try.prog c44.cps)
    (h : ∀ (l0 : List Int), allL (cpLvs s44) [l0] → (∀ i ks, s44.lss[i]? = some ks → Kinds ks (List.getD [l0] i [])) → p44 T I M pre (fun _ l => l = [l0]) l0) : CTC Try.prog 44 s44 y44 :=
  Tab.ctc (F := ⟨c44, [(3, ⟨1, [4], [], [8, 9, 10, 11, 14, 15, 16, 17, 18, 19, 20, 21, 12, 13], [⟨(-9223372036854775808), 9223372036854775807⟩], [1], []⟩)]⟩) (fuel := 250) vc44 Try.checked.mixed hs ht hC hk Try.func44 rfl I M fun ls hl hkk => by
    match ls, hl, hkk with
    | [l0], hl, hkk => rw [q44]; exact h l0 hl hkk
/-- loop.example/g01242/laws.toTree -/
def s15 : PSh := .lsts [[.i8, .i8, .i16, .i16, .i16]]
def y15 : List TypeId := [60]
noncomputable def c15 : Cfg := ⟨Try.prog, [], [(44, s44, y44)], [], [], [], []⟩
def t15 : VC :=
 (.need [(.b (.eq (.div (.len (.var 0)) (.lit 5)) (.div (.len (.var 0)) (.lit 5))))]
 (.fin (.l (.var 0) .nil)))
theorem vc15 : vcCp ⟨c15, []⟩ 250 Try.f15 s15 y15 = t15 := by kernel_rfl
set_option linter.unusedVariables false in
def p15 (T : Tab) (I : Nat → Env → Env → Prop) (M : Nat → Env → Env → Nat) (pre : Nat → List Int → List (List Int) → Prop) (post : List Int → List (List Int) → Prop) (l0 : List Int) : Prop :=
 ((decide ((((List.length l0 : Int) / 5) : Int) = ((List.length l0 : Int) / 5)) = true) ∧ ((decide ((((List.length l0 : Int) / 5) : Int) = ((List.length l0 : Int) / 5)) = true) →
 post [] [l0]))
theorem q15 (T : Tab) (I : Nat → Env → Env → Prop) (M : Nat → Env → Env → Nat) (pre : Nat → List Int → List (List Int) → Prop) (post : List Int → List (List Int) → Prop) (l0 : List Int) : t15.plain T (presG pre I M) post ⟨[], [l0]⟩ = p15 T I M pre post l0 := by kernel_rfl
theorem k15 (T : Tab) (I : Nat → Env → Env → Prop) (M : Nat → Env → Env → Nat) (pre : Nat → List Int → List (List Int) → Prop) (hs : SubSig T c15.sigs) (ht : TotG pre c15.sigs) (hC : CtAll Try.prog T.fns (presQ pre) c15.sigs) (hk : CpAll Try.prog c15.cps)
    (h : ∀ (l0 : List Int), allL (cpLvs s15) [l0] → (∀ i ks, s15.lss[i]? = some ks → Kinds ks (List.getD [l0] i [])) → p15 T I M pre (fun _ l => l = [l0]) l0) : CTC Try.prog 15 s15 y15 :=
  Tab.ctc (F := ⟨c15, []⟩) (fuel := 250) vc15 Try.checked.mixed hs ht hC hk Try.func15 rfl I M fun ls hl hkk => by
    match ls, hl, hkk with
    | [l0], hl, hkk => rw [q15]; exact h l0 hl hkk
end Go.Proofs.Ytickjfclmoecpaa.Sx
