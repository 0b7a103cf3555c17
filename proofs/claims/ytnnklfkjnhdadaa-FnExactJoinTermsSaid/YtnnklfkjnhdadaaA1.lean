import Derived.Test.YtnnklfkjnhdadaaSxX
import Derived.Test.YtnnklfkjnhdadaaSxZ
import Derived.Test.YtnnklfkjnhdadaaChecked
import Derived.KernelRfl
namespace Go.Proofs.Ytnnklfkjnhdadaa.Sx
open Go Go.RowKit
/-- loop.example/g01242/laws.toNode -/
def s15 : Sig := ⟨[.val true [.i .i8, .i .i16, .i .i16, .i .i64, .i .i64]], [(true, [.i .i8, .i .i16, .i .i16, .i .i64, .i .i64])], true⟩
noncomputable def c15 : Cfg := ⟨Try.prog, [], [], [], [], [], [], [], 0, []⟩
def iv15 : List Iv := [⟨(-128), 127⟩, ⟨(-32768), 32767⟩, ⟨(-32768), 32767⟩, ⟨(-9223372036854775808), 9223372036854775807⟩, ⟨(-9223372036854775808), 9223372036854775807⟩]
def t15 : VC :=
 (.fin (.e (.var 0) (.e (.var 1) (.e (.var 2) (.e (.var 3) (.e (.var 4) .nil))))))
theorem vc15 : vcOfI ⟨c15, []⟩ iv15 (parLvs s15.params) 250 Try.f15 s15 = t15 := by kernel_rfl
set_option linter.unusedVariables false in
def p15 (T : Tab) (I : Nat → Env → Env → Prop) (M : Nat → Env → Env → Nat) (pre : Nat → List Int → List (List Int) → Prop) (post : List Int → List (List Int) → Prop) (v0 v1 v2 v3 v4 : Int) : Prop :=
 post [v0, v1, v2, v3, v4] []
theorem q15 (T : Tab) (I : Nat → Env → Env → Prop) (M : Nat → Env → Env → Nat) (pre : Nat → List Int → List (List Int) → Prop) (post : List Int → List (List Int) → Prop) (v0 v1 v2 v3 v4 : Int) : t15.plain T (presG pre I M) post ⟨[v0, v1, v2, v3, v4], []⟩ = p15 T I M pre post v0 v1 v2 v3 v4 := by kernel_rfl
theorem k15 (T : Tab) (I : Nat → Env → Env → Prop) (M : Nat → Env → Env → Nat) (pre : Nat → List Int → List (List Int) → Prop) (hs : SubSig T c15.sigs) (ht : TotG pre c15.sigs) (hg : T.sig 15 = some s15) (hC : CtAll Try.prog T.fns (presQ pre) c15.pfs c15.pty c15.cls c15.sigs) (hk : CpAll Try.prog c15.cps) (hi : ∀ xs ls, allHas (parIvs s15.params) xs → pre 15 xs ls → allHas iv15 xs)
    (h : ∀ (v0 v1 v2 v3 v4 : Int), allHas iv15 [v0, v1, v2, v3, v4] → allL (parLvs s15.params) [] → pre 15 [v0, v1, v2, v3, v4] [] → p15 T I M pre (fun ys _ => ys = T.app 15 [v0, v1, v2, v3, v4] []) v0 v1 v2 v3 v4) : CT Try.prog T.fns (presQ pre) 15 s15 :=
  T.ctg (F := ⟨c15, []⟩) (fuel := 250) vc15 Try.checked.mixed hs ht hg hC hk Try.func15 I M (fun xs ls h1 h2 h3 => ⟨hi xs ls h1 h3, h2⟩) fun xs ls hx hl hp => by
    match xs, ls, hx, hl, hp with
    | [v0, v1, v2, v3, v4], [], hx, hl, hp => rw [q15]; exact h v0 v1 v2 v3 v4 hx hl hp
/-- loop.example/g01242/laws.toNodeS -/
def s7 : PSh := .lst [.i8, .i16, .i16, .i64, .i64]
def y7 : List TypeId := [36]
noncomputable def c7 : Cfg := ⟨Try.prog, [(15, s15)], [], [], [], [], [], [], 0, []⟩
def t7 : VC :=
 (.need [(.b (.le (.div (.len (.var 0)) (.lit 5)) (.div (.len (.var 0)) (.lit 5))))]
 (.loop 1 [(.lit 0)] [(.zeros (.mul (.div (.len (.var 0)) (.lit 5)) (.lit 5)))] [⟨(-9223372036854775808), 9223372036854775807⟩] [(⟨(-9223372036854775808), 9223372036854775807⟩, 9223372036854775807)]
  (.ite (.lt (.var 0) (.div (.len (.var 0)) (.lit 5)))
   (.need [(.b (.eq (.div (.len (.zeros (.mul (.div (.len (.var 0)) (.lit 5)) (.lit 5)))) (.lit 5)) (.div (.len (.var 1)) (.lit 5))))]
   (.need [(.b (.le (.lit 0) (.var 0))), (.b (.lt (.var 0) (.div (.len (.var 0)) (.lit 5))))]
   (.need [(.b (.lt (.add (.mul (.add (.lit 0) (.var 0)) (.lit 5)) (.lit 4)) (.len (.var 0))))]
   (.bind (.wrap .i8 (.at (.var 0) (.mul (.add (.lit 0) (.var 0)) (.lit 5))))
   (.bind (.wrap .i16 (.at (.var 0) (.add (.mul (.add (.lit 0) (.var 0)) (.lit 5)) (.lit 1))))
   (.bind (.wrap .i16 (.at (.var 0) (.add (.mul (.add (.lit 0) (.var 0)) (.lit 5)) (.lit 2))))
   (.bind (.at (.var 0) (.add (.mul (.add (.lit 0) (.var 0)) (.lit 5)) (.lit 3)))
   (.bind (.at (.var 0) (.add (.mul (.add (.lit 0) (.var 0)) (.lit 5)) (.lit 4)))
   (.call 15 (.e (.var 1) (.e (.var 2) (.e (.var 3) (.e (.var 4) (.e (.var 5) .nil))))) 5
   (.need [(.b (.le (.lit 0) (.var 0))), (.b (.lt (.var 0) (.div (.len (.var 1)) (.lit 5))))]
   (.need [(.b (.lt (.add (.mul (.add (.lit 0) (.var 0)) (.lit 5)) (.lit 4)) (.len (.var 1))))]
   (.bind (.wrap .i64 (.add (.var 0) (.lit 1)))
   (.again 1 0 1 [⟨(-9223372036854775808), 9223372036854775807⟩] [(.var 11)] [(.set (.set (.set (.set (.set (.var 1) (.mul (.add (.lit 0) (.var 0)) (.lit 5)) (.var 6)) (.add (.mul (.add (.lit 0) (.var 0)) (.lit 5)) (.lit 1)) (.var 7)) (.add (.mul (.add (.lit 0) (.var 0)) (.lit 5)) (.lit 2)) (.var 8)) (.add (.mul (.add (.lit 0) (.var 0)) (.lit 5)) (.lit 3)) (.var 9)) (.add (.mul (.add (.lit 0) (.var 0)) (.lit 5)) (.lit 4)) (.var 10))])))))))))))))
   (.need [(.b (.eq (.div (.len (.zeros (.mul (.div (.len (.var 0)) (.lit 5)) (.lit 5)))) (.lit 5)) (.div (.len (.var 1)) (.lit 5))))]
   (.need [(.b (.eq (.div (.len (.var 1)) (.lit 5)) (.div (.len (.var 1)) (.lit 5))))]
   (.fin (.l (.var 1) .nil)))))))
theorem vc7 : vcCp ⟨c7, [(3, ⟨1, [4], [], [8, 9, 10, 11, 14, 15, 16, 17, 18, 19, 20, 21, 12, 13], [⟨(-9223372036854775808), 9223372036854775807⟩], [1], []⟩)]⟩ 250 Try.f7 s7 y7 = t7 := by kernel_rfl
set_option linter.unusedVariables false in
def p7 (T : Tab) (I : Nat → Env → Env → Prop) (M : Nat → Env → Env → Nat) (pre : Nat → List Int → List (List Int) → Prop) (post : List Int → List (List Int) → Prop) (l0 : List Int) : Prop :=
 ((decide ((((List.length l0 : Int) / 5) : Int) ≤ ((List.length l0 : Int) / 5)) = true) ∧ ((decide ((((List.length l0 : Int) / 5) : Int) ≤ ((List.length l0 : Int) / 5)) = true) →
 ((allHas [⟨(-9223372036854775808), 9223372036854775807⟩] [0] ∧ I 1 ⟨[], [l0]⟩ ⟨[0], [(List.replicate (Int.toNat (((List.length l0 : Int) / 5) * 5)) (0 : Int))]⟩) ∧ ∀ v0 : Int, ∀ l1 : List Int, allHas [⟨(-9223372036854775808), 9223372036854775807⟩] [v0] → allL [(⟨(-9223372036854775808), 9223372036854775807⟩, 9223372036854775807)] [l1] → I 1 ⟨[], [l0]⟩ ⟨[v0], [l1]⟩ →
  ((decide ((v0 : Int) < ((List.length l0 : Int) / 5)) = true →
   ((decide ((((List.length (List.replicate (Int.toNat (((List.length l0 : Int) / 5) * 5)) (0 : Int)) : Int) / 5) : Int) = ((List.length l1 : Int) / 5)) = true) ∧ ((decide ((((List.length (List.replicate (Int.toNat (((List.length l0 : Int) / 5) * 5)) (0 : Int)) : Int) / 5) : Int) = ((List.length l1 : Int) / 5)) = true) →
   ((decide ((0 : Int) ≤ v0) = true ∧ decide ((v0 : Int) < ((List.length l0 : Int) / 5)) = true) ∧ ((decide ((0 : Int) ≤ v0) = true ∧ decide ((v0 : Int) < ((List.length l0 : Int) / 5)) = true) →
   ((decide (((((0 + v0) * 5) + 4) : Int) < (List.length l0 : Int)) = true) ∧ ((decide (((((0 + v0) * 5) + 4) : Int) < (List.length l0 : Int)) = true) →
   ∀ v1 : Int, v1 = (IntKind.wrap .i8 (List.getD l0 (Int.toNat ((0 + v0) * 5)) 0)) →
   ∀ v2 : Int, v2 = (IntKind.wrap .i16 (List.getD l0 (Int.toNat (((0 + v0) * 5) + 1)) 0)) →
   ∀ v3 : Int, v3 = (IntKind.wrap .i16 (List.getD l0 (Int.toNat (((0 + v0) * 5) + 2)) 0)) →
   ∀ v4 : Int, v4 = (List.getD l0 (Int.toNat (((0 + v0) * 5) + 3)) 0) →
   ∀ v5 : Int, v5 = (List.getD l0 (Int.toNat (((0 + v0) * 5) + 4)) 0) →
   ∀ v6 v7 v8 v9 v10 : Int, [v6, v7, v8, v9, v10] = T.out 15 5 [v1, v2, v3, v4, v5] →
   ((decide ((0 : Int) ≤ v0) = true ∧ decide ((v0 : Int) < ((List.length l1 : Int) / 5)) = true) ∧ ((decide ((0 : Int) ≤ v0) = true ∧ decide ((v0 : Int) < ((List.length l1 : Int) / 5)) = true) →
   ((decide (((((0 + v0) * 5) + 4) : Int) < (List.length l1 : Int)) = true) ∧ ((decide (((((0 + v0) * 5) + 4) : Int) < (List.length l1 : Int)) = true) →
   ∀ v11 : Int, v11 = (IntKind.wrap .i64 (v0 + 1)) →
   (allHas [⟨(-9223372036854775808), 9223372036854775807⟩] [v11] ∧ I 1 ⟨[], [l0]⟩ ⟨[v11], [(List.set (List.set (List.set (List.set (List.set l1 (Int.toNat ((0 + v0) * 5)) v6) (Int.toNat (((0 + v0) * 5) + 1)) v7) (Int.toNat (((0 + v0) * 5) + 2)) v8) (Int.toNat (((0 + v0) * 5) + 3)) v9) (Int.toNat (((0 + v0) * 5) + 4)) v10)]⟩ ∧ M 1 ⟨[], [l0]⟩ ⟨[v11], [(List.set (List.set (List.set (List.set (List.set l1 (Int.toNat ((0 + v0) * 5)) v6) (Int.toNat (((0 + v0) * 5) + 1)) v7) (Int.toNat (((0 + v0) * 5) + 2)) v8) (Int.toNat (((0 + v0) * 5) + 3)) v9) (Int.toNat (((0 + v0) * 5) + 4)) v10)]⟩ < M 1 ⟨[], [l0]⟩ ⟨[v0], [l1]⟩)))))))))))) ∧ (decide ((v0 : Int) < ((List.length l0 : Int) / 5)) = false →
   ((decide ((((List.length (List.replicate (Int.toNat (((List.length l0 : Int) / 5) * 5)) (0 : Int)) : Int) / 5) : Int) = ((List.length l1 : Int) / 5)) = true) ∧ ((decide ((((List.length (List.replicate (Int.toNat (((List.length l0 : Int) / 5) * 5)) (0 : Int)) : Int) / 5) : Int) = ((List.length l1 : Int) / 5)) = true) →
   ((decide ((((List.length l1 : Int) / 5) : Int) = ((List.length l1 : Int) / 5)) = true) ∧ ((decide ((((List.length l1 : Int) / 5) : Int) = ((List.length l1 : Int) / 5)) = true) →
   post [] [l1])))))))))
theorem q7 (T : Tab) (I : Nat → Env → Env → Prop) (M : Nat → Env → Env → Nat) (pre : Nat → List Int → List (List Int) → Prop) (post : List Int → List (List Int) → Prop) (l0 : List Int) : t7.plain T (presG pre I M) post ⟨[], [l0]⟩ = p7 T I M pre post l0 := by kernel_rfl
theorem k7 (T : Tab) (I : Nat → Env → Env → Prop) (M : Nat → Env → Env → Nat) (pre : Nat → List Int → List (List Int) → Prop) (hs : SubSig T c7.sigs) (ht : TotG pre c7.sigs) (hC : CtAll Try.prog T.fns (presQ pre) c7.pfs c7.pty c7.cls c7.sigs) (hk : CpAll Try.prog c7.cps)
    (h : ∀ (l0 : List Int), allL (cpLvs s7) [l0] → (∀ i ks, s7.lss[i]? = some ks → Kinds ks (List.getD [l0] i [])) → p7 T I M pre (fun _ l => l = [l0]) l0) : CTC Try.prog 7 s7 y7 :=
  Tab.ctc (F := ⟨c7, [(3, ⟨1, [4], [], [8, 9, 10, 11, 14, 15, 16, 17, 18, 19, 20, 21, 12, 13], [⟨(-9223372036854775808), 9223372036854775807⟩], [1], []⟩)]⟩) (fuel := 250) vc7 Try.checked.mixed hs ht hC hk Try.func7 rfl I M fun ls hl hkk => by
    match ls, hl, hkk with
    | [l0], hl, hkk => rw [q7]; exact h l0 hl hkk
/-- loop.example/g01242/laws.szNodeS -/
def s5 : Sig := ⟨[.lst [.i8, .i16, .i16, .i64, .i64], .val false [.i .i64]], [(false, [.i .i64])], true⟩
noncomputable def c5 : Cfg := ⟨Try.prog, [], [], [], [], [], [], [], 0, []⟩
def iv5 : List Iv := [⟨(-9223372036854775808), 9223372036854775807⟩]
def t5 : VC :=
 (.bind (.wrap .i64 (.sub (.var 0) (.div (.len (.var 0)) (.lit 5))))
 (.ite (.lt (.var 1) (.lit 0))
  (.fin (.e (.lit (-1)) .nil))
  (.fin (.e (.var 1) .nil))))
theorem vc5 : vcOfI ⟨c5, []⟩ iv5 (parLvs s5.params) 250 Try.f5 s5 = t5 := by kernel_rfl
set_option linter.unusedVariables false in
def p5 (T : Tab) (I : Nat → Env → Env → Prop) (M : Nat → Env → Env → Nat) (pre : Nat → List Int → List (List Int) → Prop) (post : List Int → List (List Int) → Prop) (v0 : Int) (l0 : List Int) : Prop :=
 ∀ v1 : Int, v1 = (IntKind.wrap .i64 (v0 - ((List.length l0 : Int) / 5))) →
 ((decide ((v1 : Int) < 0) = true →
  post [(-1)] []) ∧ (decide ((v1 : Int) < 0) = false →
  post [v1] []))
theorem q5 (T : Tab) (I : Nat → Env → Env → Prop) (M : Nat → Env → Env → Nat) (pre : Nat → List Int → List (List Int) → Prop) (post : List Int → List (List Int) → Prop) (v0 : Int) (l0 : List Int) : t5.plain T (presG pre I M) post ⟨[v0], [l0]⟩ = p5 T I M pre post v0 l0 := by kernel_rfl
theorem k5 (T : Tab) (I : Nat → Env → Env → Prop) (M : Nat → Env → Env → Nat) (pre : Nat → List Int → List (List Int) → Prop) (hs : SubSig T c5.sigs) (ht : TotG pre c5.sigs) (hg : T.sig 5 = some s5) (hC : CtAll Try.prog T.fns (presQ pre) c5.pfs c5.pty c5.cls c5.sigs) (hk : CpAll Try.prog c5.cps) (hi : ∀ xs ls, allHas (parIvs s5.params) xs → pre 5 xs ls → allHas iv5 xs)
    (h : ∀ (v0 : Int) (l0 : List Int), allHas iv5 [v0] → allL (parLvs s5.params) [l0] → pre 5 [v0] [l0] → p5 T I M pre (fun ys _ => ys = T.app 5 [v0] [l0]) v0 l0) : CT Try.prog T.fns (presQ pre) 5 s5 :=
  T.ctg (F := ⟨c5, []⟩) (fuel := 250) vc5 Try.checked.mixed hs ht hg hC hk Try.func5 I M (fun xs ls h1 h2 h3 => ⟨hi xs ls h1 h3, h2⟩) fun xs ls hx hl hp => by
    match xs, ls, hx, hl, hp with
    | [v0], [l0], hx, hl, hp => rw [q5]; exact h v0 l0 hx hl hp
/-- loop.example/g01242/laws.eqNode -/
def s17 : Sig := ⟨[.val true [.i .i8, .i .i16, .i .i16, .i .i64, .i .i64], .val true [.i .i8, .i .i16, .i .i16, .i .i64, .i .i64]], [(false, [.b])], true⟩
noncomputable def c17 : Cfg := ⟨Try.prog, [], [], [], [], [], [], [], 0, []⟩
def iv17 : List Iv := [⟨(-128), 127⟩, ⟨(-32768), 32767⟩, ⟨(-32768), 32767⟩, ⟨(-9223372036854775808), 9223372036854775807⟩, ⟨(-9223372036854775808), 9223372036854775807⟩, ⟨(-128), 127⟩, ⟨(-32768), 32767⟩, ⟨(-32768), 32767⟩, ⟨(-9223372036854775808), 9223372036854775807⟩, ⟨(-9223372036854775808), 9223372036854775807⟩]
def t17 : VC :=
 (.ite (.not (.eq (.var 0) (.var 5)))
  (.fin (.e (.lit 0) .nil))
  (.ite (.not (.eq (.var 1) (.var 6)))
   (.fin (.e (.lit 0) .nil))
   (.ite (.not (.eq (.var 2) (.var 7)))
    (.fin (.e (.lit 0) .nil))
    (.ite (.not (.eq (.var 3) (.var 8)))
     (.fin (.e (.lit 0) .nil))
     (.ite (.not (.eq (.var 4) (.var 9)))
      (.fin (.e (.lit 0) .nil))
      (.fin (.e (.lit 1) .nil)))))))
theorem vc17 : vcOfI ⟨c17, []⟩ iv17 (parLvs s17.params) 250 Try.f17 s17 = t17 := by kernel_rfl
set_option linter.unusedVariables false in
def p17 (T : Tab) (I : Nat → Env → Env → Prop) (M : Nat → Env → Env → Nat) (pre : Nat → List Int → List (List Int) → Prop) (post : List Int → List (List Int) → Prop) (v0 v1 v2 v3 v4 v5 v6 v7 v8 v9 : Int) : Prop :=
 (((!decide ((v0 : Int) = v5)) = true →
  post [0] []) ∧ ((!decide ((v0 : Int) = v5)) = false →
  (((!decide ((v1 : Int) = v6)) = true →
   post [0] []) ∧ ((!decide ((v1 : Int) = v6)) = false →
   (((!decide ((v2 : Int) = v7)) = true →
    post [0] []) ∧ ((!decide ((v2 : Int) = v7)) = false →
    (((!decide ((v3 : Int) = v8)) = true →
     post [0] []) ∧ ((!decide ((v3 : Int) = v8)) = false →
     (((!decide ((v4 : Int) = v9)) = true →
      post [0] []) ∧ ((!decide ((v4 : Int) = v9)) = false →
      post [1] []))))))))))
theorem q17 (T : Tab) (I : Nat → Env → Env → Prop) (M : Nat → Env → Env → Nat) (pre : Nat → List Int → List (List Int) → Prop) (post : List Int → List (List Int) → Prop) (v0 v1 v2 v3 v4 v5 v6 v7 v8 v9 : Int) : t17.plain T (presG pre I M) post ⟨[v0, v1, v2, v3, v4, v5, v6, v7, v8, v9], []⟩ = p17 T I M pre post v0 v1 v2 v3 v4 v5 v6 v7 v8 v9 := by kernel_rfl
theorem k17 (T : Tab) (I : Nat → Env → Env → Prop) (M : Nat → Env → Env → Nat) (pre : Nat → List Int → List (List Int) → Prop) (hs : SubSig T c17.sigs) (ht : TotG pre c17.sigs) (hg : T.sig 17 = some s17) (hC : CtAll Try.prog T.fns (presQ pre) c17.pfs c17.pty c17.cls c17.sigs) (hk : CpAll Try.prog c17.cps) (hi : ∀ xs ls, allHas (parIvs s17.params) xs → pre 17 xs ls → allHas iv17 xs)
    (h : ∀ (v0 v1 v2 v3 v4 v5 v6 v7 v8 v9 : Int), allHas iv17 [v0, v1, v2, v3, v4, v5, v6, v7, v8, v9] → allL (parLvs s17.params) [] → pre 17 [v0, v1, v2, v3, v4, v5, v6, v7, v8, v9] [] → p17 T I M pre (fun ys _ => ys = T.app 17 [v0, v1, v2, v3, v4, v5, v6, v7, v8, v9] []) v0 v1 v2 v3 v4 v5 v6 v7 v8 v9) : CT Try.prog T.fns (presQ pre) 17 s17 :=
  T.ctg (F := ⟨c17, []⟩) (fuel := 250) vc17 Try.checked.mixed hs ht hg hC hk Try.func17 I M (fun xs ls h1 h2 h3 => ⟨hi xs ls h1 h3, h2⟩) fun xs ls hx hl hp => by
    match xs, ls, hx, hl, hp with
    | [v0, v1, v2, v3, v4, v5, v6, v7, v8, v9], [], hx, hl, hp => rw [q17]; exact h v0 v1 v2 v3 v4 v5 v6 v7 v8 v9 hx hl hp
/-- loop.example/g01242/laws.eqNodeS -/
def s9 : Sig := ⟨[.lst [.i8, .i16, .i16, .i64, .i64], .lst [.i8, .i16, .i16, .i64, .i64]], [(false, [.b])], true⟩
noncomputable def c9 : Cfg := ⟨Try.prog, [(17, s17)], [], [], [], [], [], [], 0, []⟩
def iv9 : List Iv := []
def t9 : VC :=
 (.ite (.not (.eq (.div (.len (.var 0)) (.lit 5)) (.div (.len (.var 1)) (.lit 5))))
  (.fin (.e (.lit 0) .nil))
  (.loop 1 [(.lit 0)] [] [⟨(-9223372036854775808), 9223372036854775807⟩] []
   (.ite (.lt (.var 0) (.div (.len (.var 0)) (.lit 5)))
    (.need [(.b (.le (.lit 0) (.var 0))), (.b (.lt (.var 0) (.div (.len (.var 0)) (.lit 5)))), (.b (.lt (.add (.mul (.add (.lit 0) (.var 0)) (.lit 5)) (.lit 4)) (.len (.var 0)))), (.b (.le (.lit 0) (.var 0))), (.b (.lt (.var 0) (.div (.len (.var 1)) (.lit 5)))), (.b (.lt (.add (.mul (.add (.lit 0) (.var 0)) (.lit 5)) (.lit 4)) (.len (.var 1))))]
    (.call 17 (.e (.wrap .i8 (.at (.var 0) (.mul (.add (.lit 0) (.var 0)) (.lit 5)))) (.e (.wrap .i16 (.at (.var 0) (.add (.mul (.add (.lit 0) (.var 0)) (.lit 5)) (.lit 1)))) (.e (.wrap .i16 (.at (.var 0) (.add (.mul (.add (.lit 0) (.var 0)) (.lit 5)) (.lit 2)))) (.e (.at (.var 0) (.add (.mul (.add (.lit 0) (.var 0)) (.lit 5)) (.lit 3))) (.e (.at (.var 0) (.add (.mul (.add (.lit 0) (.var 0)) (.lit 5)) (.lit 4))) (.e (.wrap .i8 (.at (.var 1) (.mul (.add (.lit 0) (.var 0)) (.lit 5)))) (.e (.wrap .i16 (.at (.var 1) (.add (.mul (.add (.lit 0) (.var 0)) (.lit 5)) (.lit 1)))) (.e (.wrap .i16 (.at (.var 1) (.add (.mul (.add (.lit 0) (.var 0)) (.lit 5)) (.lit 2)))) (.e (.at (.var 1) (.add (.mul (.add (.lit 0) (.var 0)) (.lit 5)) (.lit 3))) (.e (.at (.var 1) (.add (.mul (.add (.lit 0) (.var 0)) (.lit 5)) (.lit 4))) .nil)))))))))) 1
    (.bind (.wrap .i8 (.at (.var 0) (.mul (.add (.lit 0) (.var 0)) (.lit 5))))
    (.bind (.wrap .i16 (.at (.var 0) (.add (.mul (.add (.lit 0) (.var 0)) (.lit 5)) (.lit 1))))
    (.bind (.wrap .i16 (.at (.var 0) (.add (.mul (.add (.lit 0) (.var 0)) (.lit 5)) (.lit 2))))
    (.bind (.at (.var 0) (.add (.mul (.add (.lit 0) (.var 0)) (.lit 5)) (.lit 3)))
    (.bind (.at (.var 0) (.add (.mul (.add (.lit 0) (.var 0)) (.lit 5)) (.lit 4)))
    (.bind (.wrap .i8 (.at (.var 1) (.mul (.add (.lit 0) (.var 0)) (.lit 5))))
    (.bind (.wrap .i16 (.at (.var 1) (.add (.mul (.add (.lit 0) (.var 0)) (.lit 5)) (.lit 1))))
    (.bind (.wrap .i16 (.at (.var 1) (.add (.mul (.add (.lit 0) (.var 0)) (.lit 5)) (.lit 2))))
    (.bind (.at (.var 1) (.add (.mul (.add (.lit 0) (.var 0)) (.lit 5)) (.lit 3)))
    (.bind (.at (.var 1) (.add (.mul (.add (.lit 0) (.var 0)) (.lit 5)) (.lit 4)))
    (.ite (.not (.eq (.var 1) (.lit 1)))
     (.fin (.e (.lit 0) .nil))
     (.bind (.wrap .i64 (.add (.var 0) (.lit 1)))
     (.again 1 0 2 [⟨(-9223372036854775808), 9223372036854775807⟩] [(.var 12)] [])))))))))))))))
    (.fin (.e (.lit 1) .nil)))))
theorem vc9 : vcOfI ⟨c9, [(4, ⟨1, [5], [], [11, 12, 13, 14, 17, 18, 19, 20, 21, 22, 23, 24, 25, 26, 4, 15, 16], [⟨(-9223372036854775808), 9223372036854775807⟩], [], []⟩)]⟩ iv9 (parLvs s9.params) 250 Try.f9 s9 = t9 := by kernel_rfl
set_option linter.unusedVariables false in
def p9 (T : Tab) (I : Nat → Env → Env → Prop) (M : Nat → Env → Env → Nat) (pre : Nat → List Int → List (List Int) → Prop) (post : List Int → List (List Int) → Prop) (l0 l1 : List Int) : Prop :=
 (((!decide ((((List.length l0 : Int) / 5) : Int) = ((List.length l1 : Int) / 5))) = true →
  post [0] []) ∧ ((!decide ((((List.length l0 : Int) / 5) : Int) = ((List.length l1 : Int) / 5))) = false →
  ((allHas [⟨(-9223372036854775808), 9223372036854775807⟩] [0] ∧ I 1 ⟨[], [l0, l1]⟩ ⟨[0], []⟩) ∧ ∀ v0 : Int, allHas [⟨(-9223372036854775808), 9223372036854775807⟩] [v0] → I 1 ⟨[], [l0, l1]⟩ ⟨[v0], []⟩ →
   ((decide ((v0 : Int) < ((List.length l0 : Int) / 5)) = true →
    ((decide ((0 : Int) ≤ v0) = true ∧ decide ((v0 : Int) < ((List.length l0 : Int) / 5)) = true ∧ decide (((((0 + v0) * 5) + 4) : Int) < (List.length l0 : Int)) = true ∧ decide ((0 : Int) ≤ v0) = true ∧ decide ((v0 : Int) < ((List.length l1 : Int) / 5)) = true ∧ decide (((((0 + v0) * 5) + 4) : Int) < (List.length l1 : Int)) = true) ∧ ((decide ((0 : Int) ≤ v0) = true ∧ decide ((v0 : Int) < ((List.length l0 : Int) / 5)) = true ∧ decide (((((0 + v0) * 5) + 4) : Int) < (List.length l0 : Int)) = true ∧ decide ((0 : Int) ≤ v0) = true ∧ decide ((v0 : Int) < ((List.length l1 : Int) / 5)) = true ∧ decide (((((0 + v0) * 5) + 4) : Int) < (List.length l1 : Int)) = true) →
    ∀ v1 : Int, [v1] = T.out 17 1 [(IntKind.wrap .i8 (List.getD l0 (Int.toNat ((0 + v0) * 5)) 0)), (IntKind.wrap .i16 (List.getD l0 (Int.toNat (((0 + v0) * 5) + 1)) 0)), (IntKind.wrap .i16 (List.getD l0 (Int.toNat (((0 + v0) * 5) + 2)) 0)), (List.getD l0 (Int.toNat (((0 + v0) * 5) + 3)) 0), (List.getD l0 (Int.toNat (((0 + v0) * 5) + 4)) 0), (IntKind.wrap .i8 (List.getD l1 (Int.toNat ((0 + v0) * 5)) 0)), (IntKind.wrap .i16 (List.getD l1 (Int.toNat (((0 + v0) * 5) + 1)) 0)), (IntKind.wrap .i16 (List.getD l1 (Int.toNat (((0 + v0) * 5) + 2)) 0)), (List.getD l1 (Int.toNat (((0 + v0) * 5) + 3)) 0), (List.getD l1 (Int.toNat (((0 + v0) * 5) + 4)) 0)] →
    ∀ v2 : Int, v2 = (IntKind.wrap .i8 (List.getD l0 (Int.toNat ((0 + v0) * 5)) 0)) →
    ∀ v3 : Int, v3 = (IntKind.wrap .i16 (List.getD l0 (Int.toNat (((0 + v0) * 5) + 1)) 0)) →
    ∀ v4 : Int, v4 = (IntKind.wrap .i16 (List.getD l0 (Int.toNat (((0 + v0) * 5) + 2)) 0)) →
    ∀ v5 : Int, v5 = (List.getD l0 (Int.toNat (((0 + v0) * 5) + 3)) 0) →
    ∀ v6 : Int, v6 = (List.getD l0 (Int.toNat (((0 + v0) * 5) + 4)) 0) →
    ∀ v7 : Int, v7 = (IntKind.wrap .i8 (List.getD l1 (Int.toNat ((0 + v0) * 5)) 0)) →
    ∀ v8 : Int, v8 = (IntKind.wrap .i16 (List.getD l1 (Int.toNat (((0 + v0) * 5) + 1)) 0)) →
    ∀ v9 : Int, v9 = (IntKind.wrap .i16 (List.getD l1 (Int.toNat (((0 + v0) * 5) + 2)) 0)) →
    ∀ v10 : Int, v10 = (List.getD l1 (Int.toNat (((0 + v0) * 5) + 3)) 0) →
    ∀ v11 : Int, v11 = (List.getD l1 (Int.toNat (((0 + v0) * 5) + 4)) 0) →
    (((!decide ((v1 : Int) = 1)) = true →
     post [0] []) ∧ ((!decide ((v1 : Int) = 1)) = false →
     ∀ v12 : Int, v12 = (IntKind.wrap .i64 (v0 + 1)) →
     (allHas [⟨(-9223372036854775808), 9223372036854775807⟩] [v12] ∧ I 1 ⟨[], [l0, l1]⟩ ⟨[v12], []⟩ ∧ M 1 ⟨[], [l0, l1]⟩ ⟨[v12], []⟩ < M 1 ⟨[], [l0, l1]⟩ ⟨[v0], []⟩)))))) ∧ (decide ((v0 : Int) < ((List.length l0 : Int) / 5)) = false →
    post [1] [])))))
theorem q9 (T : Tab) (I : Nat → Env → Env → Prop) (M : Nat → Env → Env → Nat) (pre : Nat → List Int → List (List Int) → Prop) (post : List Int → List (List Int) → Prop) (l0 l1 : List Int) : t9.plain T (presG pre I M) post ⟨[], [l0, l1]⟩ = p9 T I M pre post l0 l1 := by kernel_rfl
theorem k9 (T : Tab) (I : Nat → Env → Env → Prop) (M : Nat → Env → Env → Nat) (pre : Nat → List Int → List (List Int) → Prop) (hs : SubSig T c9.sigs) (ht : TotG pre c9.sigs) (hg : T.sig 9 = some s9) (hC : CtAll Try.prog T.fns (presQ pre) c9.pfs c9.pty c9.cls c9.sigs) (hk : CpAll Try.prog c9.cps) (hi : ∀ xs ls, allHas (parIvs s9.params) xs → pre 9 xs ls → allHas iv9 xs)
    (h : ∀ (l0 l1 : List Int), allHas iv9 [] → allL (parLvs s9.params) [l0, l1] → pre 9 [] [l0, l1] → p9 T I M pre (fun ys _ => ys = T.app 9 [] [l0, l1]) l0 l1) : CT Try.prog T.fns (presQ pre) 9 s9 :=
  T.ctg (F := ⟨c9, [(4, ⟨1, [5], [], [11, 12, 13, 14, 17, 18, 19, 20, 21, 22, 23, 24, 25, 26, 4, 15, 16], [⟨(-9223372036854775808), 9223372036854775807⟩], [], []⟩)]⟩) (fuel := 250) vc9 Try.checked.mixed hs ht hg hC hk Try.func9 I M (fun xs ls h1 h2 h3 => ⟨hi xs ls h1 h3, h2⟩) fun xs ls hx hl hp => by
    match xs, ls, hx, hl, hp with
    | [], [l0, l1], hx, hl, hp => rw [q9]; exact h l0 l1 hx hl hp
/-- loop.example/g01242/spec.l00In -/
def s21 : Sig := ⟨[.val false [.i .i64], .val false [.i .i64], .val false [.i .i64]], [(false, [.b])], true⟩
noncomputable def c21 : Cfg := ⟨Try.prog, [], [], [], [], [], [], [], 0, []⟩
def iv21 : List Iv := [⟨(-9223372036854775808), 9223372036854775807⟩, ⟨(-9223372036854775808), 9223372036854775807⟩, ⟨(-9223372036854775808), 9223372036854775807⟩]
def t21 : VC :=
 (.ite (.le (.var 1) (.var 0))
  (.fin (.e (.ite (.le (.var 0) (.var 2)) (.lit 1) (.lit 0)) .nil))
  (.fin (.e (.lit 0) .nil)))
theorem vc21 : vcOfI ⟨c21, []⟩ iv21 (parLvs s21.params) 250 Try.f21 s21 = t21 := by kernel_rfl
set_option linter.unusedVariables false in
def p21 (T : Tab) (I : Nat → Env → Env → Prop) (M : Nat → Env → Env → Nat) (pre : Nat → List Int → List (List Int) → Prop) (post : List Int → List (List Int) → Prop) (v0 v1 v2 : Int) : Prop :=
 ((decide ((v1 : Int) ≤ v0) = true →
  post [(if decide ((v0 : Int) ≤ v2) = true then 1 else 0)] []) ∧ (decide ((v1 : Int) ≤ v0) = false →
  post [0] []))
theorem q21 (T : Tab) (I : Nat → Env → Env → Prop) (M : Nat → Env → Env → Nat) (pre : Nat → List Int → List (List Int) → Prop) (post : List Int → List (List Int) → Prop) (v0 v1 v2 : Int) : t21.plain T (presG pre I M) post ⟨[v0, v1, v2], []⟩ = p21 T I M pre post v0 v1 v2 := by kernel_rfl
theorem k21 (T : Tab) (I : Nat → Env → Env → Prop) (M : Nat → Env → Env → Nat) (pre : Nat → List Int → List (List Int) → Prop) (hs : SubSig T c21.sigs) (ht : TotG pre c21.sigs) (hg : T.sig 21 = some s21) (hC : CtAll Try.prog T.fns (presQ pre) c21.pfs c21.pty c21.cls c21.sigs) (hk : CpAll Try.prog c21.cps) (hi : ∀ xs ls, allHas (parIvs s21.params) xs → pre 21 xs ls → allHas iv21 xs)
    (h : ∀ (v0 v1 v2 : Int), allHas iv21 [v0, v1, v2] → allL (parLvs s21.params) [] → pre 21 [v0, v1, v2] [] → p21 T I M pre (fun ys _ => ys = T.app 21 [v0, v1, v2] []) v0 v1 v2) : CT Try.prog T.fns (presQ pre) 21 s21 :=
  T.ctg (F := ⟨c21, []⟩) (fuel := 250) vc21 Try.checked.mixed hs ht hg hC hk Try.func21 I M (fun xs ls h1 h2 h3 => ⟨hi xs ls h1 h3, h2⟩) fun xs ls hx hl hp => by
    match xs, ls, hx, hl, hp with
    | [v0, v1, v2], [], hx, hl, hp => rw [q21]; exact h v0 v1 v2 hx hl hp
/-- loop.example/g01242/spec.l02One -/
def s25 : Sig := ⟨[.val false [.i .i8]], [(false, [.b])], true⟩
noncomputable def c25 : Cfg := ⟨Try.prog, [], [], [], [], [], [], [], 0, []⟩
def iv25 : List Iv := [⟨(-128), 127⟩]
def t25 : VC :=
 (.ite (.not (.eq (.var 0) (.lit 6)))
  (.ite (.not (.eq (.var 0) (.lit 7)))
   (.fin (.e (.ite (.eq (.var 0) (.lit 10)) (.lit 1) (.lit 0)) .nil))
   (.fin (.e (.lit 1) .nil)))
  (.fin (.e (.lit 1) .nil)))
theorem vc25 : vcOfI ⟨c25, []⟩ iv25 (parLvs s25.params) 250 Try.f25 s25 = t25 := by kernel_rfl
set_option linter.unusedVariables false in
def p25 (T : Tab) (I : Nat → Env → Env → Prop) (M : Nat → Env → Env → Nat) (pre : Nat → List Int → List (List Int) → Prop) (post : List Int → List (List Int) → Prop) (v0 : Int) : Prop :=
 (((!decide ((v0 : Int) = 6)) = true →
  (((!decide ((v0 : Int) = 7)) = true →
   post [(if decide ((v0 : Int) = 10) = true then 1 else 0)] []) ∧ ((!decide ((v0 : Int) = 7)) = false →
   post [1] []))) ∧ ((!decide ((v0 : Int) = 6)) = false →
  post [1] []))
theorem q25 (T : Tab) (I : Nat → Env → Env → Prop) (M : Nat → Env → Env → Nat) (pre : Nat → List Int → List (List Int) → Prop) (post : List Int → List (List Int) → Prop) (v0 : Int) : t25.plain T (presG pre I M) post ⟨[v0], []⟩ = p25 T I M pre post v0 := by kernel_rfl
theorem k25 (T : Tab) (I : Nat → Env → Env → Prop) (M : Nat → Env → Env → Nat) (pre : Nat → List Int → List (List Int) → Prop) (hs : SubSig T c25.sigs) (ht : TotG pre c25.sigs) (hg : T.sig 25 = some s25) (hC : CtAll Try.prog T.fns (presQ pre) c25.pfs c25.pty c25.cls c25.sigs) (hk : CpAll Try.prog c25.cps) (hi : ∀ xs ls, allHas (parIvs s25.params) xs → pre 25 xs ls → allHas iv25 xs)
    (h : ∀ (v0 : Int), allHas iv25 [v0] → allL (parLvs s25.params) [] → pre 25 [v0] [] → p25 T I M pre (fun ys _ => ys = T.app 25 [v0] []) v0) : CT Try.prog T.fns (presQ pre) 25 s25 :=
  T.ctg (F := ⟨c25, []⟩) (fuel := 250) vc25 Try.checked.mixed hs ht hg hC hk Try.func25 I M (fun xs ls h1 h2 h3 => ⟨hi xs ls h1 h3, h2⟩) fun xs ls hx hl hp => by
    match xs, ls, hx, hl, hp with
    | [v0], [], hx, hl, hp => rw [q25]; exact h v0 hx hl hp
/-- loop.example/g01242/spec.l02Two -/
def s26 : Sig := ⟨[.val false [.i .i8]], [(false, [.b])], true⟩
noncomputable def c26 : Cfg := ⟨Try.prog, [], [], [], [], [], [], [], 0, []⟩
def iv26 : List Iv := [⟨(-128), 127⟩]
def t26 : VC :=
 (.ite (.le (.lit 2) (.var 0))
  (.ite (.lt (.lit 5) (.var 0))
   (.ite (.not (.eq (.var 0) (.lit 8)))
    (.fin (.e (.ite (.eq (.var 0) (.lit 9)) (.lit 1) (.lit 0)) .nil))
    (.fin (.e (.lit 1) .nil)))
   (.fin (.e (.lit 1) .nil)))
  (.fin (.e (.lit 0) .nil)))
theorem vc26 : vcOfI ⟨c26, []⟩ iv26 (parLvs s26.params) 250 Try.f26 s26 = t26 := by kernel_rfl
set_option linter.unusedVariables false in
def p26 (T : Tab) (I : Nat → Env → Env → Prop) (M : Nat → Env → Env → Nat) (pre : Nat → List Int → List (List Int) → Prop) (post : List Int → List (List Int) → Prop) (v0 : Int) : Prop :=
 ((decide ((2 : Int) ≤ v0) = true →
  ((decide ((5 : Int) < v0) = true →
   (((!decide ((v0 : Int) = 8)) = true →
    post [(if decide ((v0 : Int) = 9) = true then 1 else 0)] []) ∧ ((!decide ((v0 : Int) = 8)) = false →
    post [1] []))) ∧ (decide ((5 : Int) < v0) = false →
   post [1] []))) ∧ (decide ((2 : Int) ≤ v0) = false →
  post [0] []))
theorem q26 (T : Tab) (I : Nat → Env → Env → Prop) (M : Nat → Env → Env → Nat) (pre : Nat → List Int → List (List Int) → Prop) (post : List Int → List (List Int) → Prop) (v0 : Int) : t26.plain T (presG pre I M) post ⟨[v0], []⟩ = p26 T I M pre post v0 := by kernel_rfl
theorem k26 (T : Tab) (I : Nat → Env → Env → Prop) (M : Nat → Env → Env → Nat) (pre : Nat → List Int → List (List Int) → Prop) (hs : SubSig T c26.sigs) (ht : TotG pre c26.sigs) (hg : T.sig 26 = some s26) (hC : CtAll Try.prog T.fns (presQ pre) c26.pfs c26.pty c26.cls c26.sigs) (hk : CpAll Try.prog c26.cps) (hi : ∀ xs ls, allHas (parIvs s26.params) xs → pre 26 xs ls → allHas iv26 xs)
    (h : ∀ (v0 : Int), allHas iv26 [v0] → allL (parLvs s26.params) [] → pre 26 [v0] [] → p26 T I M pre (fun ys _ => ys = T.app 26 [v0] []) v0) : CT Try.prog T.fns (presQ pre) 26 s26 :=
  T.ctg (F := ⟨c26, []⟩) (fuel := 250) vc26 Try.checked.mixed hs ht hg hC hk Try.func26 I M (fun xs ls h1 h2 h3 => ⟨hi xs ls h1 h3, h2⟩) fun xs ls hx hl hp => by
    match xs, ls, hx, hl, hp with
    | [v0], [], hx, hl, hp => rw [q26]; exact h v0 hx hl hp
/-- loop.example/g01242/spec.l02Node -/
def s22 : Sig := ⟨[.ptr [.i .i8, .i .i16, .i .i16, .i .i64, .i .i64], .val false [.i .i64]], [(false, [.b])], false⟩
noncomputable def c22 : Cfg := ⟨Try.prog, [(25, s25), (26, s26), (21, s21)], [], [], [], [], [], [], 0, []⟩
def iv22 : List Iv := [⟨(-128), 127⟩, ⟨(-32768), 32767⟩, ⟨(-32768), 32767⟩, ⟨(-9223372036854775808), 9223372036854775807⟩, ⟨(-9223372036854775808), 9223372036854775807⟩, ⟨(-9223372036854775808), 9223372036854775807⟩]
def t22 : VC :=
 (.ite (.le (.lit 1) (.var 0))
  (.ite (.lt (.lit 12) (.var 0))
   (.fin (.e (.lit 0) .nil))
   (.call 25 (.e (.var 0) .nil) 1
   (.ite (.not (.eq (.var 6) (.lit 1)))
    (.call 26 (.e (.var 0) .nil) 1
    (.ite (.eq (.var 7) (.lit 1))
     (.call 21 (.e (.var 1) (.e (.lit 0) (.e (.wrap .i64 (.sub (.var 5) (.lit 1))) .nil))) 1
     (.ite (.eq (.var 8) (.lit 1))
      (.ite (.eq (.var 3) (.lit 0))
       (.ite (.not (.eq (.var 4) (.lit 0)))
        (.fin (.e (.lit 0) .nil))
        (.call 26 (.e (.var 0) .nil) 1
        (.ite (.eq (.var 9) (.lit 1))
         (.call 21 (.e (.var 2) (.e (.lit 0) (.e (.wrap .i64 (.sub (.var 5) (.lit 1))) .nil))) 1
         (.fin (.e (.var 10) .nil)))
         (.fin (.e (.ite (.eq (.var 2) (.lit 0)) (.lit 1) (.lit 0)) .nil)))))
       (.fin (.e (.lit 0) .nil)))
      (.fin (.e (.lit 0) .nil))))
     (.ite (.eq (.var 1) (.lit 0))
      (.ite (.not (.eq (.var 2) (.lit 0)))
       (.fin (.e (.lit 0) .nil))
       (.ite (.eq (.var 0) (.lit 1))
        (.call 21 (.e (.var 3) (.e (.lit (-1000000000)) (.e (.lit 1000000000) .nil))) 1
        (.ite (.eq (.var 8) (.lit 1))
         (.call 21 (.e (.var 4) (.e (.lit 1) (.e (.lit 1000000000) .nil))) 1
         (.fin (.e (.var 9) .nil)))
         (.fin (.e (.lit 0) .nil))))
        (.ite (.eq (.var 3) (.lit 0))
         (.fin (.e (.ite (.eq (.var 4) (.lit 0)) (.lit 1) (.lit 0)) .nil))
         (.fin (.e (.lit 0) .nil)))))
      (.fin (.e (.lit 0) .nil)))))
    (.call 21 (.e (.var 1) (.e (.lit 0) (.e (.wrap .i64 (.sub (.var 5) (.lit 1))) .nil))) 1
    (.ite (.eq (.var 7) (.lit 1))
     (.ite (.eq (.var 3) (.lit 0))
      (.ite (.not (.eq (.var 4) (.lit 0)))
       (.fin (.e (.lit 0) .nil))
       (.call 26 (.e (.var 0) .nil) 1
       (.ite (.eq (.var 8) (.lit 1))
        (.call 21 (.e (.var 2) (.e (.lit 0) (.e (.wrap .i64 (.sub (.var 5) (.lit 1))) .nil))) 1
        (.fin (.e (.var 9) .nil)))
        (.fin (.e (.ite (.eq (.var 2) (.lit 0)) (.lit 1) (.lit 0)) .nil)))))
      (.fin (.e (.lit 0) .nil)))
     (.fin (.e (.lit 0) .nil)))))))
  (.fin (.e (.lit 0) .nil)))
theorem vc22 : vcOfI ⟨c22, []⟩ iv22 (parLvs s22.params) 250 Try.f22 s22 = t22 := by kernel_rfl
set_option linter.unusedVariables false in
def p22 (T : Tab) (I : Nat → Env → Env → Prop) (M : Nat → Env → Env → Nat) (pre : Nat → List Int → List (List Int) → Prop) (post : List Int → List (List Int) → Prop) (v0 v1 v2 v3 v4 v5 : Int) : Prop :=
 ((decide ((1 : Int) ≤ v0) = true →
  ((decide ((12 : Int) < v0) = true →
   post [0] []) ∧ (decide ((12 : Int) < v0) = false →
   ∀ v6 : Int, [v6] = T.out 25 1 [v0] →
   (((!decide ((v6 : Int) = 1)) = true →
    ∀ v7 : Int, [v7] = T.out 26 1 [v0] →
    ((decide ((v7 : Int) = 1) = true →
     ∀ v8 : Int, [v8] = T.out 21 1 [v1, 0, (IntKind.wrap .i64 (v5 - 1))] →
     ((decide ((v8 : Int) = 1) = true →
      ((decide ((v3 : Int) = 0) = true →
       (((!decide ((v4 : Int) = 0)) = true →
        post [0] []) ∧ ((!decide ((v4 : Int) = 0)) = false →
        ∀ v9 : Int, [v9] = T.out 26 1 [v0] →
        ((decide ((v9 : Int) = 1) = true →
         ∀ v10 : Int, [v10] = T.out 21 1 [v2, 0, (IntKind.wrap .i64 (v5 - 1))] →
         post [v10] []) ∧ (decide ((v9 : Int) = 1) = false →
         post [(if decide ((v2 : Int) = 0) = true then 1 else 0)] []))))) ∧ (decide ((v3 : Int) = 0) = false →
       post [0] []))) ∧ (decide ((v8 : Int) = 1) = false →
      post [0] []))) ∧ (decide ((v7 : Int) = 1) = false →
     ((decide ((v1 : Int) = 0) = true →
      (((!decide ((v2 : Int) = 0)) = true →
       post [0] []) ∧ ((!decide ((v2 : Int) = 0)) = false →
       ((decide ((v0 : Int) = 1) = true →
        ∀ v8 : Int, [v8] = T.out 21 1 [v3, (-1000000000), 1000000000] →
        ((decide ((v8 : Int) = 1) = true →
         ∀ v9 : Int, [v9] = T.out 21 1 [v4, 1, 1000000000] →
         post [v9] []) ∧ (decide ((v8 : Int) = 1) = false →
         post [0] []))) ∧ (decide ((v0 : Int) = 1) = false →
        ((decide ((v3 : Int) = 0) = true →
         post [(if decide ((v4 : Int) = 0) = true then 1 else 0)] []) ∧ (decide ((v3 : Int) = 0) = false →
         post [0] []))))))) ∧ (decide ((v1 : Int) = 0) = false →
      post [0] []))))) ∧ ((!decide ((v6 : Int) = 1)) = false →
    ∀ v7 : Int, [v7] = T.out 21 1 [v1, 0, (IntKind.wrap .i64 (v5 - 1))] →
    ((decide ((v7 : Int) = 1) = true →
     ((decide ((v3 : Int) = 0) = true →
      (((!decide ((v4 : Int) = 0)) = true →
       post [0] []) ∧ ((!decide ((v4 : Int) = 0)) = false →
       ∀ v8 : Int, [v8] = T.out 26 1 [v0] →
       ((decide ((v8 : Int) = 1) = true →
        ∀ v9 : Int, [v9] = T.out 21 1 [v2, 0, (IntKind.wrap .i64 (v5 - 1))] →
        post [v9] []) ∧ (decide ((v8 : Int) = 1) = false →
        post [(if decide ((v2 : Int) = 0) = true then 1 else 0)] []))))) ∧ (decide ((v3 : Int) = 0) = false →
      post [0] []))) ∧ (decide ((v7 : Int) = 1) = false →
     post [0] []))))))) ∧ (decide ((1 : Int) ≤ v0) = false →
  post [0] []))
theorem q22 (T : Tab) (I : Nat → Env → Env → Prop) (M : Nat → Env → Env → Nat) (pre : Nat → List Int → List (List Int) → Prop) (post : List Int → List (List Int) → Prop) (v0 v1 v2 v3 v4 v5 : Int) : t22.plain T (presG pre I M) post ⟨[v0, v1, v2, v3, v4, v5], []⟩ = p22 T I M pre post v0 v1 v2 v3 v4 v5 := by kernel_rfl
theorem k22 (T : Tab) (I : Nat → Env → Env → Prop) (M : Nat → Env → Env → Nat) (pre : Nat → List Int → List (List Int) → Prop) (hs : SubSig T c22.sigs) (ht : TotG pre c22.sigs) (hg : T.sig 22 = some s22) (hC : CtAll Try.prog T.fns (presQ pre) c22.pfs c22.pty c22.cls c22.sigs) (hk : CpAll Try.prog c22.cps) (hi : ∀ xs ls, allHas (parIvs s22.params) xs → pre 22 xs ls → allHas iv22 xs)
    (h : ∀ (v0 v1 v2 v3 v4 v5 : Int), allHas iv22 [v0, v1, v2, v3, v4, v5] → allL (parLvs s22.params) [] → pre 22 [v0, v1, v2, v3, v4, v5] [] → p22 T I M pre (fun ys _ => ys = T.app 22 [v0, v1, v2, v3, v4, v5] []) v0 v1 v2 v3 v4 v5) : CT Try.prog T.fns (presQ pre) 22 s22 :=
  T.ctg (F := ⟨c22, []⟩) (fuel := 250) vc22 Try.checked.mixed hs ht hg hC hk Try.func22 I M (fun xs ls h1 h2 h3 => ⟨hi xs ls h1 h3, h2⟩) fun xs ls hx hl hp => by
    match xs, ls, hx, hl, hp with
    | [v0, v1, v2, v3, v4, v5], [], hx, hl, hp => rw [q22]; exact h v0 v1 v2 v3 v4 v5 hx hl hp
/-- loop.example/g01242/impl.operandsOf -/
def s27 : Sig := ⟨[.val false [.i .i8]], [(false, [.i .i64])], true⟩
noncomputable def c27 : Cfg := ⟨Try.prog, [], [], [], [], [], [], [], 0, []⟩
def iv27 : List Iv := [⟨(-128), 127⟩]
def t27 : VC :=
 (.ite (.eq (.var 0) (.lit 2))
  (.fin (.e (.lit 2) .nil))
  (.ite (.eq (.var 0) (.lit 3))
   (.fin (.e (.lit 2) .nil))
   (.ite (.eq (.var 0) (.lit 4))
    (.fin (.e (.lit 2) .nil))
    (.ite (.eq (.var 0) (.lit 5))
     (.fin (.e (.lit 2) .nil))
     (.bind (.ite (.or (.and (.eq (.var 0) (.lit 8)) (.eq (.var 0) (.lit 8))) (.and (.not (.eq (.var 0) (.lit 8))) (.eq (.var 0) (.lit 9)))) (.lit 1) (.lit 0))
     (.ite (.eq (.var 1) (.lit 1))
      (.fin (.e (.lit 2) .nil))
      (.ite (.eq (.var 0) (.lit 6))
       (.fin (.e (.lit 1) .nil))
       (.bind (.ite (.or (.and (.eq (.var 0) (.lit 7)) (.eq (.var 0) (.lit 7))) (.and (.not (.eq (.var 0) (.lit 7))) (.eq (.var 0) (.lit 10)))) (.lit 1) (.lit 0))
       (.ite (.eq (.var 2) (.lit 1))
        (.fin (.e (.lit 1) .nil))
        (.fin (.e (.lit 0) .nil)))))))))))
theorem vc27 : vcOfI ⟨c27, []⟩ iv27 (parLvs s27.params) 250 Try.f27 s27 = t27 := by kernel_rfl
set_option linter.unusedVariables false in
def p27 (T : Tab) (I : Nat → Env → Env → Prop) (M : Nat → Env → Env → Nat) (pre : Nat → List Int → List (List Int) → Prop) (post : List Int → List (List Int) → Prop) (v0 : Int) : Prop :=
 ((decide ((v0 : Int) = 2) = true →
  post [2] []) ∧ (decide ((v0 : Int) = 2) = false →
  ((decide ((v0 : Int) = 3) = true →
   post [2] []) ∧ (decide ((v0 : Int) = 3) = false →
   ((decide ((v0 : Int) = 4) = true →
    post [2] []) ∧ (decide ((v0 : Int) = 4) = false →
    ((decide ((v0 : Int) = 5) = true →
     post [2] []) ∧ (decide ((v0 : Int) = 5) = false →
     ∀ v1 : Int, v1 = (if ((decide ((v0 : Int) = 8) && decide ((v0 : Int) = 8)) || ((!decide ((v0 : Int) = 8)) && decide ((v0 : Int) = 9))) = true then 1 else 0) →
     ((decide ((v1 : Int) = 1) = true →
      post [2] []) ∧ (decide ((v1 : Int) = 1) = false →
      ((decide ((v0 : Int) = 6) = true →
       post [1] []) ∧ (decide ((v0 : Int) = 6) = false →
       ∀ v2 : Int, v2 = (if ((decide ((v0 : Int) = 7) && decide ((v0 : Int) = 7)) || ((!decide ((v0 : Int) = 7)) && decide ((v0 : Int) = 10))) = true then 1 else 0) →
       ((decide ((v2 : Int) = 1) = true →
        post [1] []) ∧ (decide ((v2 : Int) = 1) = false →
        post [0] []))))))))))))))
theorem q27 (T : Tab) (I : Nat → Env → Env → Prop) (M : Nat → Env → Env → Nat) (pre : Nat → List Int → List (List Int) → Prop) (post : List Int → List (List Int) → Prop) (v0 : Int) : t27.plain T (presG pre I M) post ⟨[v0], []⟩ = p27 T I M pre post v0 := by kernel_rfl
theorem k27 (T : Tab) (I : Nat → Env → Env → Prop) (M : Nat → Env → Env → Nat) (pre : Nat → List Int → List (List Int) → Prop) (hs : SubSig T c27.sigs) (ht : TotG pre c27.sigs) (hg : T.sig 27 = some s27) (hC : CtAll Try.prog T.fns (presQ pre) c27.pfs c27.pty c27.cls c27.sigs) (hk : CpAll Try.prog c27.cps) (hi : ∀ xs ls, allHas (parIvs s27.params) xs → pre 27 xs ls → allHas iv27 xs)
    (h : ∀ (v0 : Int), allHas iv27 [v0] → allL (parLvs s27.params) [] → pre 27 [v0] [] → p27 T I M pre (fun ys _ => ys = T.app 27 [v0] []) v0) : CT Try.prog T.fns (presQ pre) 27 s27 :=
  T.ctg (F := ⟨c27, []⟩) (fuel := 250) vc27 Try.checked.mixed hs ht hg hC hk Try.func27 I M (fun xs ls h1 h2 h3 => ⟨hi xs ls h1 h3, h2⟩) fun xs ls hx hl hp => by
    match xs, ls, hx, hl, hp with
    | [v0], [], hx, hl, hp => rw [q27]; exact h v0 hx hl hp
/-- (loop.example/g01242/impl.Node).bare -/
def s23 : Sig := ⟨[.val true [.i .i8, .i .i16, .i .i16, .i .i64, .i .i64]], [(true, [.i .i8, .i .i16, .i .i16, .i .i64, .i .i64])], true⟩
noncomputable def c23 : Cfg := ⟨Try.prog, [(27, s27)], [], [], [], [], [], [], 0, []⟩
def iv23 : List Iv := [⟨(-128), 127⟩, ⟨(-32768), 32767⟩, ⟨(-32768), 32767⟩, ⟨(-9223372036854775808), 9223372036854775807⟩, ⟨(-9223372036854775808), 9223372036854775807⟩]
def t23 : VC :=
 (.ite (.eq (.var 0) (.lit 1))
  (.fin (.e (.var 0) (.e (.lit 0) (.e (.lit 0) (.e (.var 3) (.e (.var 4) .nil))))))
  (.call 27 (.e (.var 0) .nil) 1
  (.ite (.eq (.var 5) (.lit 2))
   (.fin (.e (.var 0) (.e (.var 1) (.e (.var 2) (.e (.lit 0) (.e (.lit 0) .nil))))))
   (.ite (.eq (.var 5) (.lit 1))
    (.fin (.e (.var 0) (.e (.var 1) (.e (.lit 0) (.e (.lit 0) (.e (.lit 0) .nil))))))
    (.fin (.e (.var 0) (.e (.lit 0) (.e (.lit 0) (.e (.lit 0) (.e (.lit 0) .nil))))))))))
theorem vc23 : vcOfI ⟨c23, []⟩ iv23 (parLvs s23.params) 250 Try.f23 s23 = t23 := by kernel_rfl
set_option linter.unusedVariables false in
def p23 (T : Tab) (I : Nat → Env → Env → Prop) (M : Nat → Env → Env → Nat) (pre : Nat → List Int → List (List Int) → Prop) (post : List Int → List (List Int) → Prop) (v0 v1 v2 v3 v4 : Int) : Prop :=
 ((decide ((v0 : Int) = 1) = true →
  post [v0, 0, 0, v3, v4] []) ∧ (decide ((v0 : Int) = 1) = false →
  ∀ v5 : Int, [v5] = T.out 27 1 [v0] →
  ((decide ((v5 : Int) = 2) = true →
   post [v0, v1, v2, 0, 0] []) ∧ (decide ((v5 : Int) = 2) = false →
   ((decide ((v5 : Int) = 1) = true →
    post [v0, v1, 0, 0, 0] []) ∧ (decide ((v5 : Int) = 1) = false →
    post [v0, 0, 0, 0, 0] []))))))
theorem q23 (T : Tab) (I : Nat → Env → Env → Prop) (M : Nat → Env → Env → Nat) (pre : Nat → List Int → List (List Int) → Prop) (post : List Int → List (List Int) → Prop) (v0 v1 v2 v3 v4 : Int) : t23.plain T (presG pre I M) post ⟨[v0, v1, v2, v3, v4], []⟩ = p23 T I M pre post v0 v1 v2 v3 v4 := by kernel_rfl
theorem k23 (T : Tab) (I : Nat → Env → Env → Prop) (M : Nat → Env → Env → Nat) (pre : Nat → List Int → List (List Int) → Prop) (hs : SubSig T c23.sigs) (ht : TotG pre c23.sigs) (hg : T.sig 23 = some s23) (hC : CtAll Try.prog T.fns (presQ pre) c23.pfs c23.pty c23.cls c23.sigs) (hk : CpAll Try.prog c23.cps) (hi : ∀ xs ls, allHas (parIvs s23.params) xs → pre 23 xs ls → allHas iv23 xs)
    (h : ∀ (v0 v1 v2 v3 v4 : Int), allHas iv23 [v0, v1, v2, v3, v4] → allL (parLvs s23.params) [] → pre 23 [v0, v1, v2, v3, v4] [] → p23 T I M pre (fun ys _ => ys = T.app 23 [v0, v1, v2, v3, v4] []) v0 v1 v2 v3 v4) : CT Try.prog T.fns (presQ pre) 23 s23 :=
  T.ctg (F := ⟨c23, []⟩) (fuel := 250) vc23 Try.checked.mixed hs ht hg hC hk Try.func23 I M (fun xs ls h1 h2 h3 => ⟨hi xs ls h1 h3, h2⟩) fun xs ls hx hl hp => by
    match xs, ls, hx, hl, hp with
    | [v0, v1, v2, v3, v4], [], hx, hl, hp => rw [q23]; exact h v0 v1 v2 v3 v4 hx hl hp
/-- (loop.example/g01242/impl.Node).isValidAt -/
def s16 : Sig := ⟨[.val true [.i .i8, .i .i16, .i .i16, .i .i64, .i .i64], .val false [.i .i64]], [(false, [.b])], true⟩
noncomputable def c16 : Cfg := ⟨Try.prog, [(23, s23)], [], [], [], [], [], [], 0, []⟩
def iv16 : List Iv := [⟨(-128), 127⟩, ⟨(-32768), 32767⟩, ⟨(-32768), 32767⟩, ⟨(-9223372036854775808), 9223372036854775807⟩, ⟨(-9223372036854775808), 9223372036854775807⟩, ⟨(-9223372036854775808), 9223372036854775807⟩]
def t16 : VC :=
 (.ite (.le (.lit 1) (.var 0))
  (.ite (.le (.var 0) (.lit 12))
   (.call 23 (.e (.var 0) (.e (.var 1) (.e (.var 2) (.e (.var 3) (.e (.var 4) .nil))))) 5
   (.ite (.not (.and (.eq (.var 0) (.var 6)) (.and (.eq (.var 1) (.var 7)) (.and (.eq (.var 2) (.var 8)) (.and (.eq (.var 3) (.var 9)) (.eq (.var 4) (.var 10)))))))
    (.fin (.e (.lit 0) .nil))
    (.fail 1)))
   (.fin (.e (.lit 0) .nil)))
  (.fin (.e (.lit 0) .nil)))
theorem vc16 : vcOfI ⟨c16, []⟩ iv16 (parLvs s16.params) 250 Try.f16 s16 = t16 := by kernel_rfl
set_option linter.unusedVariables false in
def p16 (T : Tab) (I : Nat → Env → Env → Prop) (M : Nat → Env → Env → Nat) (pre : Nat → List Int → List (List Int) → Prop) (post : List Int → List (List Int) → Prop) (v0 v1 v2 v3 v4 v5 : Int) : Prop :=
 ((decide ((1 : Int) ≤ v0) = true →
  ((decide ((v0 : Int) ≤ 12) = true →
   ∀ v6 v7 v8 v9 v10 : Int, [v6, v7, v8, v9, v10] = T.out 23 5 [v0, v1, v2, v3, v4] →
   (((!(decide ((v0 : Int) = v6) && (decide ((v1 : Int) = v7) && (decide ((v2 : Int) = v8) && (decide ((v3 : Int) = v9) && decide ((v4 : Int) = v10)))))) = true →
    post [0] []) ∧ ((!(decide ((v0 : Int) = v6) && (decide ((v1 : Int) = v7) && (decide ((v2 : Int) = v8) && (decide ((v3 : Int) = v9) && decide ((v4 : Int) = v10)))))) = false →
    False))) ∧ (decide ((v0 : Int) ≤ 12) = false →
   post [0] []))) ∧ (decide ((1 : Int) ≤ v0) = false →
  post [0] []))
theorem q16 (T : Tab) (I : Nat → Env → Env → Prop) (M : Nat → Env → Env → Nat) (pre : Nat → List Int → List (List Int) → Prop) (post : List Int → List (List Int) → Prop) (v0 v1 v2 v3 v4 v5 : Int) : t16.plain T (presG pre I M) post ⟨[v0, v1, v2, v3, v4, v5], []⟩ = p16 T I M pre post v0 v1 v2 v3 v4 v5 := by kernel_rfl
theorem k16 (T : Tab) (I : Nat → Env → Env → Prop) (M : Nat → Env → Env → Nat) (pre : Nat → List Int → List (List Int) → Prop) (hs : SubSig T c16.sigs) (ht : TotG pre c16.sigs) (hg : T.sig 16 = some s16) (hC : CtAll Try.prog T.fns (presQ pre) c16.pfs c16.pty c16.cls c16.sigs) (hk : CpAll Try.prog c16.cps) (hi : ∀ xs ls, allHas (parIvs s16.params) xs → pre 16 xs ls → allHas iv16 xs)
    (h : ∀ (v0 v1 v2 v3 v4 v5 : Int), allHas iv16 [v0, v1, v2, v3, v4, v5] → allL (parLvs s16.params) [] → pre 16 [v0, v1, v2, v3, v4, v5] [] → p16 T I M pre (fun ys _ => ys = T.app 16 [v0, v1, v2, v3, v4, v5] []) v0 v1 v2 v3 v4 v5) : CT Try.prog T.fns (presQ pre) 16 s16 :=
  T.ctg (F := ⟨c16, []⟩) (fuel := 250) vc16 Try.checked.mixed hs ht hg hC hk Try.func16 I M (fun xs ls h1 h2 h3 => ⟨hi xs ls h1 h3, h2⟩) fun xs ls hx hl hp => by
    match xs, ls, hx, hl, hp with
    | [v0, v1, v2, v3, v4, v5], [], hx, hl, hp => rw [q16]; exact h v0 v1 v2 v3 v4 v5 hx hl hp
/-- loop.example/g01242/spec.l02Ok -/
def s14 : Sig := ⟨[.lst [.i8, .i16, .i16, .i64, .i64]], [(false, [.b])], true⟩
noncomputable def c14 : Cfg := ⟨Try.prog, [(21, s21), (22, s22)], [], [], [], [], [], [], 0, []⟩
def iv14 : List Iv := []
def t14 : VC :=
 (.call 21 (.e (.div (.len (.var 0)) (.lit 5)) (.e (.lit 1) (.e (.lit 40) .nil))) 1
 (.ite (.not (.eq (.var 0) (.lit 1)))
  (.fin (.e (.lit 0) .nil))
  (.loop 1 [(.lit 0)] [] [⟨(-9223372036854775808), 9223372036854775807⟩] []
   (.ite (.lt (.var 1) (.div (.len (.var 0)) (.lit 5)))
    (.need [(.b (.le (.lit 0) (.var 1))), (.b (.lt (.var 1) (.div (.len (.var 0)) (.lit 5))))]
    (.need [(.pre 22 (.e (.wrap .i8 (.at (.var 0) (.mul (.add (.lit 0) (.var 1)) (.lit 5)))) (.e (.wrap .i16 (.at (.var 0) (.add (.mul (.add (.lit 0) (.var 1)) (.lit 5)) (.lit 1)))) (.e (.wrap .i16 (.at (.var 0) (.add (.mul (.add (.lit 0) (.var 1)) (.lit 5)) (.lit 2)))) (.e (.at (.var 0) (.add (.mul (.add (.lit 0) (.var 1)) (.lit 5)) (.lit 3))) (.e (.at (.var 0) (.add (.mul (.add (.lit 0) (.var 1)) (.lit 5)) (.lit 4))) (.e (.var 1) .nil)))))))]
    (.call 22 (.e (.wrap .i8 (.at (.var 0) (.mul (.add (.lit 0) (.var 1)) (.lit 5)))) (.e (.wrap .i16 (.at (.var 0) (.add (.mul (.add (.lit 0) (.var 1)) (.lit 5)) (.lit 1)))) (.e (.wrap .i16 (.at (.var 0) (.add (.mul (.add (.lit 0) (.var 1)) (.lit 5)) (.lit 2)))) (.e (.at (.var 0) (.add (.mul (.add (.lit 0) (.var 1)) (.lit 5)) (.lit 3))) (.e (.at (.var 0) (.add (.mul (.add (.lit 0) (.var 1)) (.lit 5)) (.lit 4))) (.e (.var 1) .nil)))))) 1
    (.ite (.not (.eq (.var 2) (.lit 1)))
     (.fin (.e (.lit 0) .nil))
     (.bind (.wrap .i64 (.add (.var 1) (.lit 1)))
     (.again 1 1 1 [⟨(-9223372036854775808), 9223372036854775807⟩] [(.var 3)] []))))))
    (.fin (.e (.lit 1) .nil))))))
theorem vc14 : vcOfI ⟨c14, [(4, ⟨1, [3], [], [8, 9, 10, 11, 14, 15, 16, 17, 18, 19, 2, 12, 13], [⟨(-9223372036854775808), 9223372036854775807⟩], [], []⟩)]⟩ iv14 (parLvs s14.params) 250 Try.f14 s14 = t14 := by kernel_rfl
set_option linter.unusedVariables false in
def p14 (T : Tab) (I : Nat → Env → Env → Prop) (M : Nat → Env → Env → Nat) (pre : Nat → List Int → List (List Int) → Prop) (post : List Int → List (List Int) → Prop) (l0 : List Int) : Prop :=
 ∀ v0 : Int, [v0] = T.out 21 1 [((List.length l0 : Int) / 5), 1, 40] →
 (((!decide ((v0 : Int) = 1)) = true →
  post [0] []) ∧ ((!decide ((v0 : Int) = 1)) = false →
  ((allHas [⟨(-9223372036854775808), 9223372036854775807⟩] [0] ∧ I 1 ⟨[v0], [l0]⟩ ⟨[0], []⟩) ∧ ∀ v1 : Int, allHas [⟨(-9223372036854775808), 9223372036854775807⟩] [v1] → I 1 ⟨[v0], [l0]⟩ ⟨[v1], []⟩ →
   ((decide ((v1 : Int) < ((List.length l0 : Int) / 5)) = true →
    ((decide ((0 : Int) ≤ v1) = true ∧ decide ((v1 : Int) < ((List.length l0 : Int) / 5)) = true) ∧ ((decide ((0 : Int) ≤ v1) = true ∧ decide ((v1 : Int) < ((List.length l0 : Int) / 5)) = true) →
    ((pre 22 [(IntKind.wrap .i8 (List.getD l0 (Int.toNat ((0 + v1) * 5)) 0)), (IntKind.wrap .i16 (List.getD l0 (Int.toNat (((0 + v1) * 5) + 1)) 0)), (IntKind.wrap .i16 (List.getD l0 (Int.toNat (((0 + v1) * 5) + 2)) 0)), (List.getD l0 (Int.toNat (((0 + v1) * 5) + 3)) 0), (List.getD l0 (Int.toNat (((0 + v1) * 5) + 4)) 0), v1] []) ∧ ((pre 22 [(IntKind.wrap .i8 (List.getD l0 (Int.toNat ((0 + v1) * 5)) 0)), (IntKind.wrap .i16 (List.getD l0 (Int.toNat (((0 + v1) * 5) + 1)) 0)), (IntKind.wrap .i16 (List.getD l0 (Int.toNat (((0 + v1) * 5) + 2)) 0)), (List.getD l0 (Int.toNat (((0 + v1) * 5) + 3)) 0), (List.getD l0 (Int.toNat (((0 + v1) * 5) + 4)) 0), v1] []) →
    ∀ v2 : Int, [v2] = T.out 22 1 [(IntKind.wrap .i8 (List.getD l0 (Int.toNat ((0 + v1) * 5)) 0)), (IntKind.wrap .i16 (List.getD l0 (Int.toNat (((0 + v1) * 5) + 1)) 0)), (IntKind.wrap .i16 (List.getD l0 (Int.toNat (((0 + v1) * 5) + 2)) 0)), (List.getD l0 (Int.toNat (((0 + v1) * 5) + 3)) 0), (List.getD l0 (Int.toNat (((0 + v1) * 5) + 4)) 0), v1] →
    (((!decide ((v2 : Int) = 1)) = true →
     post [0] []) ∧ ((!decide ((v2 : Int) = 1)) = false →
     ∀ v3 : Int, v3 = (IntKind.wrap .i64 (v1 + 1)) →
     (allHas [⟨(-9223372036854775808), 9223372036854775807⟩] [v3] ∧ I 1 ⟨[v0], [l0]⟩ ⟨[v3], []⟩ ∧ M 1 ⟨[v0], [l0]⟩ ⟨[v3], []⟩ < M 1 ⟨[v0], [l0]⟩ ⟨[v1], []⟩)))))))) ∧ (decide ((v1 : Int) < ((List.length l0 : Int) / 5)) = false →
    post [1] [])))))
theorem q14 (T : Tab) (I : Nat → Env → Env → Prop) (M : Nat → Env → Env → Nat) (pre : Nat → List Int → List (List Int) → Prop) (post : List Int → List (List Int) → Prop) (l0 : List Int) : t14.plain T (presG pre I M) post ⟨[], [l0]⟩ = p14 T I M pre post l0 := by kernel_rfl
theorem k14 (T : Tab) (I : Nat → Env → Env → Prop) (M : Nat → Env → Env → Nat) (pre : Nat → List Int → List (List Int) → Prop) (hs : SubSig T c14.sigs) (ht : TotG pre c14.sigs) (hg : T.sig 14 = some s14) (hC : CtAll Try.prog T.fns (presQ pre) c14.pfs c14.pty c14.cls c14.sigs) (hk : CpAll Try.prog c14.cps) (hi : ∀ xs ls, allHas (parIvs s14.params) xs → pre 14 xs ls → allHas iv14 xs)
    (h : ∀ (l0 : List Int), allHas iv14 [] → allL (parLvs s14.params) [l0] → pre 14 [] [l0] → p14 T I M pre (fun ys _ => ys = T.app 14 [] [l0]) l0) : CT Try.prog T.fns (presQ pre) 14 s14 :=
  T.ctg (F := ⟨c14, [(4, ⟨1, [3], [], [8, 9, 10, 11, 14, 15, 16, 17, 18, 19, 2, 12, 13], [⟨(-9223372036854775808), 9223372036854775807⟩], [], []⟩)]⟩) (fuel := 250) vc14 Try.checked.mixed hs ht hg hC hk Try.func14 I M (fun xs ls h1 h2 h3 => ⟨hi xs ls h1 h3, h2⟩) fun xs ls hx hl hp => by
    match xs, ls, hx, hl, hp with
    | [], [l0], hx, hl, hp => rw [q14]; exact h l0 hx hl hp
/-- loop.example/g01242/spec.ValidTerm -/
def s6 : Sig := ⟨[.lst [.i8, .i16, .i16, .i64, .i64]], [(false, [.b])], true⟩
noncomputable def c6 : Cfg := ⟨Try.prog, [(14, s14)], [], [], [], [], [], [], 0, []⟩
def iv6 : List Iv := []
def t6 : VC :=
 (.call 14 (.l (.var 0) .nil) 1
 (.fin (.e (.var 0) .nil)))
theorem vc6 : vcOfI ⟨c6, []⟩ iv6 (parLvs s6.params) 250 Try.f6 s6 = t6 := by kernel_rfl
set_option linter.unusedVariables false in
def p6 (T : Tab) (I : Nat → Env → Env → Prop) (M : Nat → Env → Env → Nat) (pre : Nat → List Int → List (List Int) → Prop) (post : List Int → List (List Int) → Prop) (l0 : List Int) : Prop :=
 ∀ v0 : Int, [v0] = T.outL 14 1 [] [l0] →
 post [v0] []
theorem q6 (T : Tab) (I : Nat → Env → Env → Prop) (M : Nat → Env → Env → Nat) (pre : Nat → List Int → List (List Int) → Prop) (post : List Int → List (List Int) → Prop) (l0 : List Int) : t6.plain T (presG pre I M) post ⟨[], [l0]⟩ = p6 T I M pre post l0 := by kernel_rfl
theorem k6 (T : Tab) (I : Nat → Env → Env → Prop) (M : Nat → Env → Env → Nat) (pre : Nat → List Int → List (List Int) → Prop) (hs : SubSig T c6.sigs) (ht : TotG pre c6.sigs) (hg : T.sig 6 = some s6) (hC : CtAll Try.prog T.fns (presQ pre) c6.pfs c6.pty c6.cls c6.sigs) (hk : CpAll Try.prog c6.cps) (hi : ∀ xs ls, allHas (parIvs s6.params) xs → pre 6 xs ls → allHas iv6 xs)
    (h : ∀ (l0 : List Int), allHas iv6 [] → allL (parLvs s6.params) [l0] → pre 6 [] [l0] → p6 T I M pre (fun ys _ => ys = T.app 6 [] [l0]) l0) : CT Try.prog T.fns (presQ pre) 6 s6 :=
  T.ctg (F := ⟨c6, []⟩) (fuel := 250) vc6 Try.checked.mixed hs ht hg hC hk Try.func6 I M (fun xs ls h1 h2 h3 => ⟨hi xs ls h1 h3, h2⟩) fun xs ls hx hl hp => by
    match xs, ls, hx, hl, hp with
    | [], [l0], hx, hl, hp => rw [q6]; exact h l0 hx hl hp
/-- loop.example/g01242/impl.ValidTerm -/
def s8 : Sig := ⟨[.lst [.i8, .i16, .i16, .i64, .i64]], [(false, [.b])], true⟩
noncomputable def c8 : Cfg := ⟨Try.prog, [(16, s16)], [], [], [], [], [], [], 0, []⟩
def iv8 : List Iv := []
def t8 : VC :=
 (.ite (.le (.lit 1) (.div (.len (.var 0)) (.lit 5)))
  (.ite (.lt (.lit 40) (.div (.len (.var 0)) (.lit 5)))
   (.fin (.e (.lit 0) .nil))
   (.loop 1 [(.lit 0)] [] [⟨(-9223372036854775808), 9223372036854775807⟩] []
    (.ite (.lt (.var 0) (.div (.len (.var 0)) (.lit 5)))
     (.need [(.b (.le (.lit 0) (.var 0))), (.b (.lt (.var 0) (.div (.len (.var 0)) (.lit 5))))]
     (.need [(.b (.lt (.add (.mul (.add (.lit 0) (.var 0)) (.lit 5)) (.lit 4)) (.len (.var 0))))]
     (.bind (.wrap .i8 (.at (.var 0) (.mul (.add (.lit 0) (.var 0)) (.lit 5))))
     (.bind (.wrap .i16 (.at (.var 0) (.add (.mul (.add (.lit 0) (.var 0)) (.lit 5)) (.lit 1))))
     (.bind (.wrap .i16 (.at (.var 0) (.add (.mul (.add (.lit 0) (.var 0)) (.lit 5)) (.lit 2))))
     (.bind (.at (.var 0) (.add (.mul (.add (.lit 0) (.var 0)) (.lit 5)) (.lit 3)))
     (.bind (.at (.var 0) (.add (.mul (.add (.lit 0) (.var 0)) (.lit 5)) (.lit 4)))
     (.call 16 (.e (.var 1) (.e (.var 2) (.e (.var 3) (.e (.var 4) (.e (.var 5) (.e (.var 0) .nil)))))) 1
     (.ite (.not (.eq (.var 6) (.lit 1)))
      (.fin (.e (.lit 0) .nil))
      (.again 1 0 1 [⟨(-9223372036854775808), 9223372036854775807⟩] [(.wrap .i64 (.add (.var 0) (.lit 1)))] []))))))))))
     (.fin (.e (.lit 1) .nil)))))
  (.fin (.e (.lit 0) .nil)))
theorem vc8 : vcOfI ⟨c8, [(4, ⟨1, [15], [], [16, 17, 18, 19, 4, 3, 20, 21, 22, 23, 2, 24], [⟨(-9223372036854775808), 9223372036854775807⟩], [], []⟩)]⟩ iv8 (parLvs s8.params) 250 Try.f8 s8 = t8 := by kernel_rfl
set_option linter.unusedVariables false in
def p8 (T : Tab) (I : Nat → Env → Env → Prop) (M : Nat → Env → Env → Nat) (pre : Nat → List Int → List (List Int) → Prop) (post : List Int → List (List Int) → Prop) (l0 : List Int) : Prop :=
 ((decide ((1 : Int) ≤ ((List.length l0 : Int) / 5)) = true →
  ((decide ((40 : Int) < ((List.length l0 : Int) / 5)) = true →
   post [0] []) ∧ (decide ((40 : Int) < ((List.length l0 : Int) / 5)) = false →
   ((allHas [⟨(-9223372036854775808), 9223372036854775807⟩] [0] ∧ I 1 ⟨[], [l0]⟩ ⟨[0], []⟩) ∧ ∀ v0 : Int, allHas [⟨(-9223372036854775808), 9223372036854775807⟩] [v0] → I 1 ⟨[], [l0]⟩ ⟨[v0], []⟩ →
    ((decide ((v0 : Int) < ((List.length l0 : Int) / 5)) = true →
     ((decide ((0 : Int) ≤ v0) = true ∧ decide ((v0 : Int) < ((List.length l0 : Int) / 5)) = true) ∧ ((decide ((0 : Int) ≤ v0) = true ∧ decide ((v0 : Int) < ((List.length l0 : Int) / 5)) = true) →
     ((decide (((((0 + v0) * 5) + 4) : Int) < (List.length l0 : Int)) = true) ∧ ((decide (((((0 + v0) * 5) + 4) : Int) < (List.length l0 : Int)) = true) →
     ∀ v1 : Int, v1 = (IntKind.wrap .i8 (List.getD l0 (Int.toNat ((0 + v0) * 5)) 0)) →
     ∀ v2 : Int, v2 = (IntKind.wrap .i16 (List.getD l0 (Int.toNat (((0 + v0) * 5) + 1)) 0)) →
     ∀ v3 : Int, v3 = (IntKind.wrap .i16 (List.getD l0 (Int.toNat (((0 + v0) * 5) + 2)) 0)) →
     ∀ v4 : Int, v4 = (List.getD l0 (Int.toNat (((0 + v0) * 5) + 3)) 0) →
     ∀ v5 : Int, v5 = (List.getD l0 (Int.toNat (((0 + v0) * 5) + 4)) 0) →
     ∀ v6 : Int, [v6] = T.out 16 1 [v1, v2, v3, v4, v5, v0] →
     (((!decide ((v6 : Int) = 1)) = true →
      post [0] []) ∧ ((!decide ((v6 : Int) = 1)) = false →
      (allHas [⟨(-9223372036854775808), 9223372036854775807⟩] [(IntKind.wrap .i64 (v0 + 1))] ∧ I 1 ⟨[], [l0]⟩ ⟨[(IntKind.wrap .i64 (v0 + 1))], []⟩ ∧ M 1 ⟨[], [l0]⟩ ⟨[(IntKind.wrap .i64 (v0 + 1))], []⟩ < M 1 ⟨[], [l0]⟩ ⟨[v0], []⟩)))))))) ∧ (decide ((v0 : Int) < ((List.length l0 : Int) / 5)) = false →
     post [1] [])))))) ∧ (decide ((1 : Int) ≤ ((List.length l0 : Int) / 5)) = false →
  post [0] []))
theorem q8 (T : Tab) (I : Nat → Env → Env → Prop) (M : Nat → Env → Env → Nat) (pre : Nat → List Int → List (List Int) → Prop) (post : List Int → List (List Int) → Prop) (l0 : List Int) : t8.plain T (presG pre I M) post ⟨[], [l0]⟩ = p8 T I M pre post l0 := by kernel_rfl
theorem k8 (T : Tab) (I : Nat → Env → Env → Prop) (M : Nat → Env → Env → Nat) (pre : Nat → List Int → List (List Int) → Prop) (hs : SubSig T c8.sigs) (ht : TotG pre c8.sigs) (hg : T.sig 8 = some s8) (hC : CtAll Try.prog T.fns (presQ pre) c8.pfs c8.pty c8.cls c8.sigs) (hk : CpAll Try.prog c8.cps) (hi : ∀ xs ls, allHas (parIvs s8.params) xs → pre 8 xs ls → allHas iv8 xs)
    (h : ∀ (l0 : List Int), allHas iv8 [] → allL (parLvs s8.params) [l0] → pre 8 [] [l0] → p8 T I M pre (fun ys _ => ys = T.app 8 [] [l0]) l0) : CT Try.prog T.fns (presQ pre) 8 s8 :=
  T.ctg (F := ⟨c8, [(4, ⟨1, [15], [], [16, 17, 18, 19, 4, 3, 20, 21, 22, 23, 2, 24], [⟨(-9223372036854775808), 9223372036854775807⟩], [], []⟩)]⟩) (fuel := 250) vc8 Try.checked.mixed hs ht hg hC hk Try.func8 I M (fun xs ls h1 h2 h3 => ⟨hi xs ls h1 h3, h2⟩) fun xs ls hx hl hp => by
    match xs, ls, hx, hl, hp with
    | [], [l0], hx, hl, hp => rw [q8]; exact h l0 hx hl hp
/-- loop.example/g01242/laws.FnExactValidTerm -/
def s3 : Sig := ⟨[.lst [.i8, .i16, .i16, .i64, .i64]], [(false, [.b])], true⟩
noncomputable def c3 : Cfg := ⟨Try.prog, [(5, s5), (6, s6), (8, s8), (9, s9)], [(7, s7, y7)], [], [], [], [], [], 0, []⟩
def iv3 : List Iv := []
def t3 : VC :=
 (.call 5 (.l (.var 0) (.e (.lit 1048576) .nil)) 1
 (.ite (.lt (.var 0) (.lit 0))
  (.fin (.e (.lit 1) .nil))
  (.need [(.b (.le (.len (.var 0)) (.lit 1099511627776)))]
  (.call 6 (.l (.var 0) .nil) 1
  (.need [(.b (.le (.len (.var 0)) (.lit 1099511627776)))]
  (.call 8 (.l (.var 0) .nil) 1
  (.ite (.not (.beq (.eq (.var 2) (.lit 1)) (.eq (.var 1) (.lit 1))))
   (.fin (.e (.lit 0) .nil))
   (.need [(.b (.le (.len (.var 0)) (.lit 1099511627776)))]
   (.call 9 (.l (.var 0) (.l (.var 0) .nil)) 1
   (.ite (.not (.eq (.var 3) (.lit 1)))
    (.fin (.e (.lit 0) .nil))
    (.fin (.e (.lit 1) .nil))))))))))))
theorem vc3 : vcOfI ⟨c3, []⟩ iv3 (parLvs s3.params) 250 Try.f3 s3 = t3 := by kernel_rfl
set_option linter.unusedVariables false in
def p3 (T : Tab) (I : Nat → Env → Env → Prop) (M : Nat → Env → Env → Nat) (pre : Nat → List Int → List (List Int) → Prop) (post : List Int → List (List Int) → Prop) (l0 : List Int) : Prop :=
 ∀ v0 : Int, [v0] = T.outL 5 1 [1048576] [l0] →
 ((decide ((v0 : Int) < 0) = true →
  post [1] []) ∧ (decide ((v0 : Int) < 0) = false →
  ((decide (((List.length l0 : Int) : Int) ≤ 1099511627776) = true) ∧ ((decide (((List.length l0 : Int) : Int) ≤ 1099511627776) = true) →
  ∀ v1 : Int, [v1] = T.outL 6 1 [] [l0] →
  ((decide (((List.length l0 : Int) : Int) ≤ 1099511627776) = true) ∧ ((decide (((List.length l0 : Int) : Int) ≤ 1099511627776) = true) →
  ∀ v2 : Int, [v2] = T.outL 8 1 [] [l0] →
  (((!(decide ((v2 : Int) = 1) == decide ((v1 : Int) = 1))) = true →
   post [0] []) ∧ ((!(decide ((v2 : Int) = 1) == decide ((v1 : Int) = 1))) = false →
   ((decide (((List.length l0 : Int) : Int) ≤ 1099511627776) = true) ∧ ((decide (((List.length l0 : Int) : Int) ≤ 1099511627776) = true) →
   ∀ v3 : Int, [v3] = T.outL 9 1 [] [l0, l0] →
   (((!decide ((v3 : Int) = 1)) = true →
    post [0] []) ∧ ((!decide ((v3 : Int) = 1)) = false →
    post [1] []))))))))))))
theorem q3 (T : Tab) (I : Nat → Env → Env → Prop) (M : Nat → Env → Env → Nat) (pre : Nat → List Int → List (List Int) → Prop) (post : List Int → List (List Int) → Prop) (l0 : List Int) : t3.plain T (presG pre I M) post ⟨[], [l0]⟩ = p3 T I M pre post l0 := by kernel_rfl
theorem k3 (T : Tab) (I : Nat → Env → Env → Prop) (M : Nat → Env → Env → Nat) (pre : Nat → List Int → List (List Int) → Prop) (hs : SubSig T c3.sigs) (ht : TotG pre c3.sigs) (hg : T.sig 3 = some s3) (hC : CtAll Try.prog T.fns (presQ pre) c3.pfs c3.pty c3.cls c3.sigs) (hk : CpAll Try.prog c3.cps) (hi : ∀ xs ls, allHas (parIvs s3.params) xs → pre 3 xs ls → allHas iv3 xs)
    (h : ∀ (l0 : List Int), allHas iv3 [] → allL (parLvs s3.params) [l0] → pre 3 [] [l0] → p3 T I M pre (fun ys _ => ys = T.app 3 [] [l0]) l0) : CT Try.prog T.fns (presQ pre) 3 s3 :=
  T.ctg (F := ⟨c3, []⟩) (fuel := 250) vc3 Try.checked.mixed hs ht hg hC hk Try.func3 I M (fun xs ls h1 h2 h3 => ⟨hi xs ls h1 h3, h2⟩) fun xs ls hx hl hp => by
    match xs, ls, hx, hl, hp with
    | [], [l0], hx, hl, hp => rw [q3]; exact h l0 hx hl hp
end Go.Proofs.Ytnnklfkjnhdadaa.Sx
