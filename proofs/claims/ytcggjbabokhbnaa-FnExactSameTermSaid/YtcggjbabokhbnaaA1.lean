import Derived.Test.YtcggjbabokhbnaaSxT
import Derived.Test.YtcggjbabokhbnaaChecked
import Derived.KernelRfl
namespace Go.Proofs.Ytcggjbabokhbnaa.Sx
open Go Go.RowKit
/-- loop.example/g01242/laws.toNode -/
def s28 : Sig := ⟨[.val true [.i .i8, .i .i16, .i .i16, .i .i64, .i .i64]], [(true, [.i .i8, .i .i16, .i .i16, .i .i64, .i .i64])], true⟩
noncomputable def c28 : Cfg := ⟨Try.prog, [], []⟩
def iv28 : List Iv := [⟨(-128), 127⟩, ⟨(-32768), 32767⟩, ⟨(-32768), 32767⟩, ⟨(-9223372036854775808), 9223372036854775807⟩, ⟨(-9223372036854775808), 9223372036854775807⟩]
def t28 : VC :=
 (.fin (.e (.var 0) (.e (.var 1) (.e (.var 2) (.e (.var 3) (.e (.var 4) .nil))))))
theorem vc28 : vcOfI ⟨c28, []⟩ iv28 (parLvs s28.params) 250 Try.f28 s28 = t28 := by kernel_rfl
set_option linter.unusedVariables false in
def p28 (T : Tab) (I : Nat → Env → Env → Prop) (M : Nat → Env → Env → Nat) (pre : Nat → List Int → List (List Int) → Prop) (post : List Int → List (List Int) → Prop) (v0 v1 v2 v3 v4 : Int) : Prop :=
 post [v0, v1, v2, v3, v4] []
theorem q28 (T : Tab) (I : Nat → Env → Env → Prop) (M : Nat → Env → Env → Nat) (pre : Nat → List Int → List (List Int) → Prop) (post : List Int → List (List Int) → Prop) (v0 v1 v2 v3 v4 : Int) : t28.plain T (presG pre I M) post ⟨[v0, v1, v2, v3, v4], []⟩ = p28 T I M pre post v0 v1 v2 v3 v4 := by kernel_rfl
theorem k28 (T : Tab) (I : Nat → Env → Env → Prop) (M : Nat → Env → Env → Nat) (pre : Nat → List Int → List (List Int) → Prop) (hs : SubSig T c28.sigs) (ht : TotG pre c28.sigs) (hg : T.sig 28 = some s28) (hC : CtAll Try.prog T.fns (presQ pre) c28.sigs) (hk : CpAll Try.prog c28.cps) (hi : ∀ xs ls, allHas (parIvs s28.params) xs → pre 28 xs ls → allHas iv28 xs)
    (h : ∀ (v0 v1 v2 v3 v4 : Int), allHas iv28 [v0, v1, v2, v3, v4] → allL (parLvs s28.params) [] → pre 28 [v0, v1, v2, v3, v4] [] → p28 T I M pre (fun ys _ => ys = T.app 28 [v0, v1, v2, v3, v4] []) v0 v1 v2 v3 v4) : CT Try.prog T.fns (presQ pre) 28 s28 :=
  T.ctg (F := ⟨c28, []⟩) (fuel := 250) vc28 Try.checked.mixed hs ht hg hC hk Try.func28 I M (fun xs ls h1 h2 h3 => ⟨hi xs ls h1 h3, h2⟩) fun xs ls hx hl hp => by
    match xs, ls, hx, hl, hp with
    | [v0, v1, v2, v3, v4], [], hx, hl, hp => rw [q28]; exact h v0 v1 v2 v3 v4 hx hl hp
/-- loop.example/g01242/laws.toNodeS -/
def s10 : PSh := .lst [.i8, .i16, .i16, .i64, .i64]
def y10 : List TypeId := [49]
noncomputable def c10 : Cfg := ⟨Try.prog, [(28, s28)], []⟩
def t10 : VC :=
 (.need [(.b (.le (.div (.len (.var 0)) (.lit 5)) (.div (.len (.var 0)) (.lit 5))))]
 (.loop 1 [(.lit 0)] [(.zeros (.mul (.div (.len (.var 0)) (.lit 5)) (.lit 5)))] [⟨(-9223372036854775808), 9223372036854775807⟩] [(⟨(-9223372036854775808), 9223372036854775807⟩, 9223372036854775807)]
  (.ite (.lt (.var 0) (.div (.len (.var 0)) (.lit 5)))
   (.need [(.b (.le (.lit 0) (.var 0))), (.b (.lt (.var 0) (.div (.len (.var 0)) (.lit 5))))]
   (.need [(.b (.lt (.add (.mul (.add (.lit 0) (.var 0)) (.lit 5)) (.lit 4)) (.len (.var 0))))]
   (.bind (.wrap .i8 (.at (.var 0) (.mul (.add (.lit 0) (.var 0)) (.lit 5))))
   (.bind (.wrap .i16 (.at (.var 0) (.add (.mul (.add (.lit 0) (.var 0)) (.lit 5)) (.lit 1))))
   (.bind (.wrap .i16 (.at (.var 0) (.add (.mul (.add (.lit 0) (.var 0)) (.lit 5)) (.lit 2))))
   (.bind (.at (.var 0) (.add (.mul (.add (.lit 0) (.var 0)) (.lit 5)) (.lit 3)))
   (.bind (.at (.var 0) (.add (.mul (.add (.lit 0) (.var 0)) (.lit 5)) (.lit 4)))
   (.call 28 (.e (.var 1) (.e (.var 2) (.e (.var 3) (.e (.var 4) (.e (.var 5) .nil))))) 5
   (.need [(.b (.le (.lit 0) (.var 0))), (.b (.lt (.var 0) (.div (.len (.zeros (.mul (.div (.len (.var 0)) (.lit 5)) (.lit 5)))) (.lit 5)))), (.b (.lt (.add (.lit 0) (.var 0)) (.div (.len (.var 1)) (.lit 5))))]
   (.need [(.b (.lt (.add (.mul (.add (.lit 0) (.var 0)) (.lit 5)) (.lit 4)) (.len (.var 1))))]
   (.bind (.wrap .i64 (.add (.var 0) (.lit 1)))
   (.again 1 0 1 [⟨(-9223372036854775808), 9223372036854775807⟩] [(.var 11)] [(.set (.set (.set (.set (.set (.var 1) (.mul (.add (.lit 0) (.var 0)) (.lit 5)) (.var 6)) (.add (.mul (.add (.lit 0) (.var 0)) (.lit 5)) (.lit 1)) (.var 7)) (.add (.mul (.add (.lit 0) (.var 0)) (.lit 5)) (.lit 2)) (.var 8)) (.add (.mul (.add (.lit 0) (.var 0)) (.lit 5)) (.lit 3)) (.var 9)) (.add (.mul (.add (.lit 0) (.var 0)) (.lit 5)) (.lit 4)) (.var 10))]))))))))))))
   (.need [(.b (.eq (.div (.len (.zeros (.mul (.div (.len (.var 0)) (.lit 5)) (.lit 5)))) (.lit 5)) (.div (.len (.var 1)) (.lit 5))))]
   (.fin (.l (.var 1) .nil))))))
theorem vc10 : vcCp ⟨c10, [(3, ⟨1, [4], [], [8, 9, 10, 11, 14, 15, 16, 17, 18, 19, 20, 21, 12, 13], [⟨(-9223372036854775808), 9223372036854775807⟩], [1]⟩)]⟩ 250 Try.f10 s10 y10 = t10 := by kernel_rfl
set_option linter.unusedVariables false in
def p10 (T : Tab) (I : Nat → Env → Env → Prop) (M : Nat → Env → Env → Nat) (pre : Nat → List Int → List (List Int) → Prop) (post : List Int → List (List Int) → Prop) (l0 : List Int) : Prop :=
 ((decide ((((List.length l0 : Int) / 5) : Int) ≤ ((List.length l0 : Int) / 5)) = true) ∧ ((decide ((((List.length l0 : Int) / 5) : Int) ≤ ((List.length l0 : Int) / 5)) = true) →
 ((allHas [⟨(-9223372036854775808), 9223372036854775807⟩] [0] ∧ I 1 ⟨[], [l0]⟩ ⟨[0], [(List.replicate (Int.toNat (((List.length l0 : Int) / 5) * 5)) (0 : Int))]⟩) ∧ ∀ v0 : Int, ∀ l1 : List Int, allHas [⟨(-9223372036854775808), 9223372036854775807⟩] [v0] → allL [(⟨(-9223372036854775808), 9223372036854775807⟩, 9223372036854775807)] [l1] → I 1 ⟨[], [l0]⟩ ⟨[v0], [l1]⟩ →
  ((decide ((v0 : Int) < ((List.length l0 : Int) / 5)) = true →
   ((decide ((0 : Int) ≤ v0) = true ∧ decide ((v0 : Int) < ((List.length l0 : Int) / 5)) = true) ∧ ((decide ((0 : Int) ≤ v0) = true ∧ decide ((v0 : Int) < ((List.length l0 : Int) / 5)) = true) →
   ((decide (((((0 + v0) * 5) + 4) : Int) < (List.length l0 : Int)) = true) ∧ ((decide (((((0 + v0) * 5) + 4) : Int) < (List.length l0 : Int)) = true) →
   ∀ v1 : Int, v1 = (IntKind.wrap .i8 (List.getD l0 (Int.toNat ((0 + v0) * 5)) 0)) →
   ∀ v2 : Int, v2 = (IntKind.wrap .i16 (List.getD l0 (Int.toNat (((0 + v0) * 5) + 1)) 0)) →
   ∀ v3 : Int, v3 = (IntKind.wrap .i16 (List.getD l0 (Int.toNat (((0 + v0) * 5) + 2)) 0)) →
   ∀ v4 : Int, v4 = (List.getD l0 (Int.toNat (((0 + v0) * 5) + 3)) 0) →
   ∀ v5 : Int, v5 = (List.getD l0 (Int.toNat (((0 + v0) * 5) + 4)) 0) →
   ∀ v6 v7 v8 v9 v10 : Int, [v6, v7, v8, v9, v10] = T.out 28 5 [v1, v2, v3, v4, v5] →
   ((decide ((0 : Int) ≤ v0) = true ∧ decide ((v0 : Int) < ((List.length (List.replicate (Int.toNat (((List.length l0 : Int) / 5) * 5)) (0 : Int)) : Int) / 5)) = true ∧ decide (((0 + v0) : Int) < ((List.length l1 : Int) / 5)) = true) ∧ ((decide ((0 : Int) ≤ v0) = true ∧ decide ((v0 : Int) < ((List.length (List.replicate (Int.toNat (((List.length l0 : Int) / 5) * 5)) (0 : Int)) : Int) / 5)) = true ∧ decide (((0 + v0) : Int) < ((List.length l1 : Int) / 5)) = true) →
   ((decide (((((0 + v0) * 5) + 4) : Int) < (List.length l1 : Int)) = true) ∧ ((decide (((((0 + v0) * 5) + 4) : Int) < (List.length l1 : Int)) = true) →
   ∀ v11 : Int, v11 = (IntKind.wrap .i64 (v0 + 1)) →
   (allHas [⟨(-9223372036854775808), 9223372036854775807⟩] [v11] ∧ I 1 ⟨[], [l0]⟩ ⟨[v11], [(List.set (List.set (List.set (List.set (List.set l1 (Int.toNat ((0 + v0) * 5)) v6) (Int.toNat (((0 + v0) * 5) + 1)) v7) (Int.toNat (((0 + v0) * 5) + 2)) v8) (Int.toNat (((0 + v0) * 5) + 3)) v9) (Int.toNat (((0 + v0) * 5) + 4)) v10)]⟩ ∧ M 1 ⟨[], [l0]⟩ ⟨[v11], [(List.set (List.set (List.set (List.set (List.set l1 (Int.toNat ((0 + v0) * 5)) v6) (Int.toNat (((0 + v0) * 5) + 1)) v7) (Int.toNat (((0 + v0) * 5) + 2)) v8) (Int.toNat (((0 + v0) * 5) + 3)) v9) (Int.toNat (((0 + v0) * 5) + 4)) v10)]⟩ < M 1 ⟨[], [l0]⟩ ⟨[v0], [l1]⟩)))))))))) ∧ (decide ((v0 : Int) < ((List.length l0 : Int) / 5)) = false →
   ((decide ((((List.length (List.replicate (Int.toNat (((List.length l0 : Int) / 5) * 5)) (0 : Int)) : Int) / 5) : Int) = ((List.length l1 : Int) / 5)) = true) ∧ ((decide ((((List.length (List.replicate (Int.toNat (((List.length l0 : Int) / 5) * 5)) (0 : Int)) : Int) / 5) : Int) = ((List.length l1 : Int) / 5)) = true) →
   post [] [l1])))))))
theorem q10 (T : Tab) (I : Nat → Env → Env → Prop) (M : Nat → Env → Env → Nat) (pre : Nat → List Int → List (List Int) → Prop) (post : List Int → List (List Int) → Prop) (l0 : List Int) : t10.plain T (presG pre I M) post ⟨[], [l0]⟩ = p10 T I M pre post l0 := by kernel_rfl
theorem k10 (T : Tab) (I : Nat → Env → Env → Prop) (M : Nat → Env → Env → Nat) (pre : Nat → List Int → List (List Int) → Prop) (hs : SubSig T c10.sigs) (ht : TotG pre c10.sigs) (hC : CtAll Try.prog T.fns (presQ pre) c10.sigs) (hk : CpAll Try.prog c10.cps)
    (h : ∀ (l0 : List Int), allL (cpLvs s10) [l0] → (∀ i ks, s10.lss[i]? = some ks → Kinds ks (List.getD [l0] i [])) → p10 T I M pre (fun _ l => l = [l0]) l0) : CTC Try.prog 10 s10 y10 :=
  Tab.ctc (F := ⟨c10, [(3, ⟨1, [4], [], [8, 9, 10, 11, 14, 15, 16, 17, 18, 19, 20, 21, 12, 13], [⟨(-9223372036854775808), 9223372036854775807⟩], [1]⟩)]⟩) (fuel := 250) vc10 Try.checked.mixed hs ht hC hk Try.func10 rfl I M fun ls hl hkk => by
    match ls, hl, hkk with
    | [l0], hl, hkk => rw [q10]; exact h l0 hl hkk
/-- loop.example/g01242/laws.szNodeS -/
def s8 : Sig := ⟨[.lst [.i8, .i16, .i16, .i64, .i64], .val false [.i .i64]], [(false, [.i .i64])], true⟩
noncomputable def c8 : Cfg := ⟨Try.prog, [], []⟩
def iv8 : List Iv := [⟨(-9223372036854775808), 9223372036854775807⟩]
def t8 : VC :=
 (.bind (.wrap .i64 (.sub (.var 0) (.div (.len (.var 0)) (.lit 5))))
 (.ite (.lt (.var 1) (.lit 0))
  (.fin (.e (.lit (-1)) .nil))
  (.fin (.e (.var 1) .nil))))
theorem vc8 : vcOfI ⟨c8, []⟩ iv8 (parLvs s8.params) 250 Try.f8 s8 = t8 := by kernel_rfl
set_option linter.unusedVariables false in
def p8 (T : Tab) (I : Nat → Env → Env → Prop) (M : Nat → Env → Env → Nat) (pre : Nat → List Int → List (List Int) → Prop) (post : List Int → List (List Int) → Prop) (v0 : Int) (l0 : List Int) : Prop :=
 ∀ v1 : Int, v1 = (IntKind.wrap .i64 (v0 - ((List.length l0 : Int) / 5))) →
 ((decide ((v1 : Int) < 0) = true →
  post [(-1)] []) ∧ (decide ((v1 : Int) < 0) = false →
  post [v1] []))
theorem q8 (T : Tab) (I : Nat → Env → Env → Prop) (M : Nat → Env → Env → Nat) (pre : Nat → List Int → List (List Int) → Prop) (post : List Int → List (List Int) → Prop) (v0 : Int) (l0 : List Int) : t8.plain T (presG pre I M) post ⟨[v0], [l0]⟩ = p8 T I M pre post v0 l0 := by kernel_rfl
theorem k8 (T : Tab) (I : Nat → Env → Env → Prop) (M : Nat → Env → Env → Nat) (pre : Nat → List Int → List (List Int) → Prop) (hs : SubSig T c8.sigs) (ht : TotG pre c8.sigs) (hg : T.sig 8 = some s8) (hC : CtAll Try.prog T.fns (presQ pre) c8.sigs) (hk : CpAll Try.prog c8.cps) (hi : ∀ xs ls, allHas (parIvs s8.params) xs → pre 8 xs ls → allHas iv8 xs)
    (h : ∀ (v0 : Int) (l0 : List Int), allHas iv8 [v0] → allL (parLvs s8.params) [l0] → pre 8 [v0] [l0] → p8 T I M pre (fun ys _ => ys = T.app 8 [v0] [l0]) v0 l0) : CT Try.prog T.fns (presQ pre) 8 s8 :=
  T.ctg (F := ⟨c8, []⟩) (fuel := 250) vc8 Try.checked.mixed hs ht hg hC hk Try.func8 I M (fun xs ls h1 h2 h3 => ⟨hi xs ls h1 h3, h2⟩) fun xs ls hx hl hp => by
    match xs, ls, hx, hl, hp with
    | [v0], [l0], hx, hl, hp => rw [q8]; exact h v0 l0 hx hl hp
/-- loop.example/g01242/laws.eqNode -/
def s30 : Sig := ⟨[.val true [.i .i8, .i .i16, .i .i16, .i .i64, .i .i64], .val true [.i .i8, .i .i16, .i .i16, .i .i64, .i .i64]], [(false, [.b])], true⟩
noncomputable def c30 : Cfg := ⟨Try.prog, [], []⟩
def iv30 : List Iv := [⟨(-128), 127⟩, ⟨(-32768), 32767⟩, ⟨(-32768), 32767⟩, ⟨(-9223372036854775808), 9223372036854775807⟩, ⟨(-9223372036854775808), 9223372036854775807⟩, ⟨(-128), 127⟩, ⟨(-32768), 32767⟩, ⟨(-32768), 32767⟩, ⟨(-9223372036854775808), 9223372036854775807⟩, ⟨(-9223372036854775808), 9223372036854775807⟩]
def t30 : VC :=
 (.ite (.not (.eq (.var 0) (.var 5)))
  (.fin (.e (.lit 0) .nil))
  (.ite (.not (.eq (.var 1) (.var 6)))
   (.fin (.e (.lit 0) .nil))
   (.ite (.not (.eq (.var 2) (.var 7)))
    (.fin (.e (.lit 0) .nil))
    (.ite (.not (.eq (.var 3) (.var 8)))
     (.fin (.e (.lit 0) .nil))
     (.ite (.not (.eq (.var 4) (.var 9)))
      (.fin (.e (.lit 0) .nil))
      (.fin (.e (.lit 1) .nil)))))))
theorem vc30 : vcOfI ⟨c30, []⟩ iv30 (parLvs s30.params) 250 Try.f30 s30 = t30 := by kernel_rfl
set_option linter.unusedVariables false in
def p30 (T : Tab) (I : Nat → Env → Env → Prop) (M : Nat → Env → Env → Nat) (pre : Nat → List Int → List (List Int) → Prop) (post : List Int → List (List Int) → Prop) (v0 v1 v2 v3 v4 v5 v6 v7 v8 v9 : Int) : Prop :=
 (((!decide ((v0 : Int) = v5)) = true →
  post [0] []) ∧ ((!decide ((v0 : Int) = v5)) = false →
  (((!decide ((v1 : Int) = v6)) = true →
   post [0] []) ∧ ((!decide ((v1 : Int) = v6)) = false →
   (((!decide ((v2 : Int) = v7)) = true →
    post [0] []) ∧ ((!decide ((v2 : Int) = v7)) = false →
    (((!decide ((v3 : Int) = v8)) = true →
     post [0] []) ∧ ((!decide ((v3 : Int) = v8)) = false →
     (((!decide ((v4 : Int) = v9)) = true →
      post [0] []) ∧ ((!decide ((v4 : Int) = v9)) = false →
      post [1] []))))))))))
theorem q30 (T : Tab) (I : Nat → Env → Env → Prop) (M : Nat → Env → Env → Nat) (pre : Nat → List Int → List (List Int) → Prop) (post : List Int → List (List Int) → Prop) (v0 v1 v2 v3 v4 v5 v6 v7 v8 v9 : Int) : t30.plain T (presG pre I M) post ⟨[v0, v1, v2, v3, v4, v5, v6, v7, v8, v9], []⟩ = p30 T I M pre post v0 v1 v2 v3 v4 v5 v6 v7 v8 v9 := by kernel_rfl
theorem k30 (T : Tab) (I : Nat → Env → Env → Prop) (M : Nat → Env → Env → Nat) (pre : Nat → List Int → List (List Int) → Prop) (hs : SubSig T c30.sigs) (ht : TotG pre c30.sigs) (hg : T.sig 30 = some s30) (hC : CtAll Try.prog T.fns (presQ pre) c30.sigs) (hk : CpAll Try.prog c30.cps) (hi : ∀ xs ls, allHas (parIvs s30.params) xs → pre 30 xs ls → allHas iv30 xs)
    (h : ∀ (v0 v1 v2 v3 v4 v5 v6 v7 v8 v9 : Int), allHas iv30 [v0, v1, v2, v3, v4, v5, v6, v7, v8, v9] → allL (parLvs s30.params) [] → pre 30 [v0, v1, v2, v3, v4, v5, v6, v7, v8, v9] [] → p30 T I M pre (fun ys _ => ys = T.app 30 [v0, v1, v2, v3, v4, v5, v6, v7, v8, v9] []) v0 v1 v2 v3 v4 v5 v6 v7 v8 v9) : CT Try.prog T.fns (presQ pre) 30 s30 :=
  T.ctg (F := ⟨c30, []⟩) (fuel := 250) vc30 Try.checked.mixed hs ht hg hC hk Try.func30 I M (fun xs ls h1 h2 h3 => ⟨hi xs ls h1 h3, h2⟩) fun xs ls hx hl hp => by
    match xs, ls, hx, hl, hp with
    | [v0, v1, v2, v3, v4, v5, v6, v7, v8, v9], [], hx, hl, hp => rw [q30]; exact h v0 v1 v2 v3 v4 v5 v6 v7 v8 v9 hx hl hp
/-- loop.example/g01242/laws.eqNodeS -/
def s12 : Sig := ⟨[.lst [.i8, .i16, .i16, .i64, .i64], .lst [.i8, .i16, .i16, .i64, .i64]], [(false, [.b])], true⟩
noncomputable def c12 : Cfg := ⟨Try.prog, [(30, s30)], []⟩
def iv12 : List Iv := []
def t12 : VC :=
 (.ite (.not (.eq (.div (.len (.var 0)) (.lit 5)) (.div (.len (.var 1)) (.lit 5))))
  (.fin (.e (.lit 0) .nil))
  (.loop 1 [(.lit 0)] [] [⟨(-9223372036854775808), 9223372036854775807⟩] []
   (.ite (.lt (.var 0) (.div (.len (.var 0)) (.lit 5)))
    (.need [(.b (.le (.lit 0) (.var 0))), (.b (.lt (.var 0) (.div (.len (.var 0)) (.lit 5)))), (.b (.lt (.add (.mul (.add (.lit 0) (.var 0)) (.lit 5)) (.lit 4)) (.len (.var 0)))), (.b (.le (.lit 0) (.var 0))), (.b (.lt (.var 0) (.div (.len (.var 1)) (.lit 5)))), (.b (.lt (.add (.mul (.add (.lit 0) (.var 0)) (.lit 5)) (.lit 4)) (.len (.var 1))))]
    (.call 30 (.e (.wrap .i8 (.at (.var 0) (.mul (.add (.lit 0) (.var 0)) (.lit 5)))) (.e (.wrap .i16 (.at (.var 0) (.add (.mul (.add (.lit 0) (.var 0)) (.lit 5)) (.lit 1)))) (.e (.wrap .i16 (.at (.var 0) (.add (.mul (.add (.lit 0) (.var 0)) (.lit 5)) (.lit 2)))) (.e (.at (.var 0) (.add (.mul (.add (.lit 0) (.var 0)) (.lit 5)) (.lit 3))) (.e (.at (.var 0) (.add (.mul (.add (.lit 0) (.var 0)) (.lit 5)) (.lit 4))) (.e (.wrap .i8 (.at (.var 1) (.mul (.add (.lit 0) (.var 0)) (.lit 5)))) (.e (.wrap .i16 (.at (.var 1) (.add (.mul (.add (.lit 0) (.var 0)) (.lit 5)) (.lit 1)))) (.e (.wrap .i16 (.at (.var 1) (.add (.mul (.add (.lit 0) (.var 0)) (.lit 5)) (.lit 2)))) (.e (.at (.var 1) (.add (.mul (.add (.lit 0) (.var 0)) (.lit 5)) (.lit 3))) (.e (.at (.var 1) (.add (.mul (.add (.lit 0) (.var 0)) (.lit 5)) (.lit 4))) .nil)))))))))) 1
    (.bind (.wrap .i8 (.at (.var 0) (.mul (.add (.lit 0) (.var 0)) (.lit 5))))
    (.bind (.wrap .i16 (.at (.var 0) (.add (.mul (.add (.lit 0) (.var 0)) (.lit 5)) (.lit 1))))
    (.bind (.wrap .i16 (.at (.var 0) (.add (.mul (.add (.lit 0) (.var 0)) (.lit 5)) (.lit 2))))
    (.bind (.at (.var 0) (.add (.mul (.add (.lit 0) (.var 0)) (.lit 5)) (.lit 3)))
    (.bind (.at (.var 0) (.add (.mul (.add (.lit 0) (.var 0)) (.lit 5)) (.lit 4)))
    (.bind (.wrap .i8 (.at (.var 1) (.mul (.add (.lit 0) (.var 0)) (.lit 5))))
    (.bind (.wrap .i16 (.at (.var 1) (.add (.mul (.add (.lit 0) (.var 0)) (.lit 5)) (.lit 1))))
    (.bind (.wrap .i16 (.at (.var 1) (.add (.mul (.add (.lit 0) (.var 0)) (.lit 5)) (.lit 2))))
    (.bind (.at (.var 1) (.add (.mul (.add (.lit 0) (.var 0)) (.lit 5)) (.lit 3)))
    (.bind (.at (.var 1) (.add (.mul (.add (.lit 0) (.var 0)) (.lit 5)) (.lit 4)))
    (.ite (.not (.eq (.var 1) (.lit 1)))
     (.fin (.e (.lit 0) .nil))
     (.bind (.wrap .i64 (.add (.var 0) (.lit 1)))
     (.again 1 0 2 [⟨(-9223372036854775808), 9223372036854775807⟩] [(.var 12)] [])))))))))))))))
    (.fin (.e (.lit 1) .nil)))))
theorem vc12 : vcOfI ⟨c12, [(4, ⟨1, [5], [], [11, 12, 13, 14, 17, 18, 19, 20, 21, 22, 23, 24, 25, 26, 4, 15, 16], [⟨(-9223372036854775808), 9223372036854775807⟩], []⟩)]⟩ iv12 (parLvs s12.params) 250 Try.f12 s12 = t12 := by kernel_rfl
set_option linter.unusedVariables false in
def p12 (T : Tab) (I : Nat → Env → Env → Prop) (M : Nat → Env → Env → Nat) (pre : Nat → List Int → List (List Int) → Prop) (post : List Int → List (List Int) → Prop) (l0 l1 : List Int) : Prop :=
 (((!decide ((((List.length l0 : Int) / 5) : Int) = ((List.length l1 : Int) / 5))) = true →
  post [0] []) ∧ ((!decide ((((List.length l0 : Int) / 5) : Int) = ((List.length l1 : Int) / 5))) = false →
  ((allHas [⟨(-9223372036854775808), 9223372036854775807⟩] [0] ∧ I 1 ⟨[], [l0, l1]⟩ ⟨[0], []⟩) ∧ ∀ v0 : Int, allHas [⟨(-9223372036854775808), 9223372036854775807⟩] [v0] → I 1 ⟨[], [l0, l1]⟩ ⟨[v0], []⟩ →
   ((decide ((v0 : Int) < ((List.length l0 : Int) / 5)) = true →
    ((decide ((0 : Int) ≤ v0) = true ∧ decide ((v0 : Int) < ((List.length l0 : Int) / 5)) = true ∧ decide (((((0 + v0) * 5) + 4) : Int) < (List.length l0 : Int)) = true ∧ decide ((0 : Int) ≤ v0) = true ∧ decide ((v0 : Int) < ((List.length l1 : Int) / 5)) = true ∧ decide (((((0 + v0) * 5) + 4) : Int) < (List.length l1 : Int)) = true) ∧ ((decide ((0 : Int) ≤ v0) = true ∧ decide ((v0 : Int) < ((List.length l0 : Int) / 5)) = true ∧ decide (((((0 + v0) * 5) + 4) : Int) < (List.length l0 : Int)) = true ∧ decide ((0 : Int) ≤ v0) = true ∧ decide ((v0 : Int) < ((List.length l1 : Int) / 5)) = true ∧ decide (((((0 + v0) * 5) + 4) : Int) < (List.length l1 : Int)) = true) →
    ∀ v1 : Int, [v1] = T.out 30 1 [(IntKind.wrap .i8 (List.getD l0 (Int.toNat ((0 + v0) * 5)) 0)), (IntKind.wrap .i16 (List.getD l0 (Int.toNat (((0 + v0) * 5) + 1)) 0)), (IntKind.wrap .i16 (List.getD l0 (Int.toNat (((0 + v0) * 5) + 2)) 0)), (List.getD l0 (Int.toNat (((0 + v0) * 5) + 3)) 0), (List.getD l0 (Int.toNat (((0 + v0) * 5) + 4)) 0), (IntKind.wrap .i8 (List.getD l1 (Int.toNat ((0 + v0) * 5)) 0)), (IntKind.wrap .i16 (List.getD l1 (Int.toNat (((0 + v0) * 5) + 1)) 0)), (IntKind.wrap .i16 (List.getD l1 (Int.toNat (((0 + v0) * 5) + 2)) 0)), (List.getD l1 (Int.toNat (((0 + v0) * 5) + 3)) 0), (List.getD l1 (Int.toNat (((0 + v0) * 5) + 4)) 0)] →
    ∀ v2 : Int, v2 = (IntKind.wrap .i8 (List.getD l0 (Int.toNat ((0 + v0) * 5)) 0)) →
    ∀ v3 : Int, v3 = (IntKind.wrap .i16 (List.getD l0 (Int.toNat (((0 + v0) * 5) + 1)) 0)) →
    ∀ v4 : Int, v4 = (IntKind.wrap .i16 (List.getD l0 (Int.toNat (((0 + v0) * 5) + 2)) 0)) →
    ∀ v5 : Int, v5 = (List.getD l0 (Int.toNat (((0 + v0) * 5) + 3)) 0) →
    ∀ v6 : Int, v6 = (List.getD l0 (Int.toNat (((0 + v0) * 5) + 4)) 0) →
    ∀ v7 : Int, v7 = (IntKind.wrap .i8 (List.getD l1 (Int.toNat ((0 + v0) * 5)) 0)) →
    ∀ v8 : Int, v8 = (IntKind.wrap .i16 (List.getD l1 (Int.toNat (((0 + v0) * 5) + 1)) 0)) →
    ∀ v9 : Int, v9 = (IntKind.wrap .i16 (List.getD l1 (Int.toNat (((0 + v0) * 5) + 2)) 0)) →
    ∀ v10 : Int, v10 = (List.getD l1 (Int.toNat (((0 + v0) * 5) + 3)) 0) →
    ∀ v11 : Int, v11 = (List.getD l1 (Int.toNat (((0 + v0) * 5) + 4)) 0) →
    (((!decide ((v1 : Int) = 1)) = true →
     post [0] []) ∧ ((!decide ((v1 : Int) = 1)) = false →
     ∀ v12 : Int, v12 = (IntKind.wrap .i64 (v0 + 1)) →
     (allHas [⟨(-9223372036854775808), 9223372036854775807⟩] [v12] ∧ I 1 ⟨[], [l0, l1]⟩ ⟨[v12], []⟩ ∧ M 1 ⟨[], [l0, l1]⟩ ⟨[v12], []⟩ < M 1 ⟨[], [l0, l1]⟩ ⟨[v0], []⟩)))))) ∧ (decide ((v0 : Int) < ((List.length l0 : Int) / 5)) = false →
    post [1] [])))))
theorem q12 (T : Tab) (I : Nat → Env → Env → Prop) (M : Nat → Env → Env → Nat) (pre : Nat → List Int → List (List Int) → Prop) (post : List Int → List (List Int) → Prop) (l0 l1 : List Int) : t12.plain T (presG pre I M) post ⟨[], [l0, l1]⟩ = p12 T I M pre post l0 l1 := by kernel_rfl
theorem k12 (T : Tab) (I : Nat → Env → Env → Prop) (M : Nat → Env → Env → Nat) (pre : Nat → List Int → List (List Int) → Prop) (hs : SubSig T c12.sigs) (ht : TotG pre c12.sigs) (hg : T.sig 12 = some s12) (hC : CtAll Try.prog T.fns (presQ pre) c12.sigs) (hk : CpAll Try.prog c12.cps) (hi : ∀ xs ls, allHas (parIvs s12.params) xs → pre 12 xs ls → allHas iv12 xs)
    (h : ∀ (l0 l1 : List Int), allHas iv12 [] → allL (parLvs s12.params) [l0, l1] → pre 12 [] [l0, l1] → p12 T I M pre (fun ys _ => ys = T.app 12 [] [l0, l1]) l0 l1) : CT Try.prog T.fns (presQ pre) 12 s12 :=
  T.ctg (F := ⟨c12, [(4, ⟨1, [5], [], [11, 12, 13, 14, 17, 18, 19, 20, 21, 22, 23, 24, 25, 26, 4, 15, 16], [⟨(-9223372036854775808), 9223372036854775807⟩], []⟩)]⟩) (fuel := 250) vc12 Try.checked.mixed hs ht hg hC hk Try.func12 I M (fun xs ls h1 h2 h3 => ⟨hi xs ls h1 h3, h2⟩) fun xs ls hx hl hp => by
    match xs, ls, hx, hl, hp with
    | [], [l0, l1], hx, hl, hp => rw [q12]; exact h l0 l1 hx hl hp
/-- loop.example/g01242/spec.SameTerm -/
def s9 : Sig := ⟨[.lst [.i8, .i16, .i16, .i64, .i64], .lst [.i8, .i16, .i16, .i64, .i64]], [(false, [.b])], true⟩
noncomputable def c9 : Cfg := ⟨Try.prog, [], []⟩
def iv9 : List Iv := []
def t9 : VC :=
 (.ite (.not (.eq (.div (.len (.var 0)) (.lit 5)) (.div (.len (.var 1)) (.lit 5))))
  (.fin (.e (.lit 0) .nil))
  (.loop 1 [(.lit 0)] [] [⟨(-9223372036854775808), 9223372036854775807⟩] []
   (.ite (.lt (.var 0) (.div (.len (.var 0)) (.lit 5)))
    (.need [(.b (.le (.lit 0) (.var 0))), (.b (.lt (.var 0) (.div (.len (.var 0)) (.lit 5)))), (.b (.lt (.add (.mul (.add (.lit 0) (.var 0)) (.lit 5)) (.lit 4)) (.len (.var 0)))), (.b (.le (.lit 0) (.var 0))), (.b (.lt (.var 0) (.div (.len (.var 1)) (.lit 5)))), (.b (.lt (.add (.mul (.add (.lit 0) (.var 0)) (.lit 5)) (.lit 4)) (.len (.var 1))))]
    (.bind (.wrap .i8 (.at (.var 0) (.mul (.add (.lit 0) (.var 0)) (.lit 5))))
    (.bind (.wrap .i16 (.at (.var 0) (.add (.mul (.add (.lit 0) (.var 0)) (.lit 5)) (.lit 1))))
    (.bind (.wrap .i16 (.at (.var 0) (.add (.mul (.add (.lit 0) (.var 0)) (.lit 5)) (.lit 2))))
    (.bind (.at (.var 0) (.add (.mul (.add (.lit 0) (.var 0)) (.lit 5)) (.lit 3)))
    (.bind (.at (.var 0) (.add (.mul (.add (.lit 0) (.var 0)) (.lit 5)) (.lit 4)))
    (.bind (.wrap .i8 (.at (.var 1) (.mul (.add (.lit 0) (.var 0)) (.lit 5))))
    (.bind (.wrap .i16 (.at (.var 1) (.add (.mul (.add (.lit 0) (.var 0)) (.lit 5)) (.lit 1))))
    (.bind (.wrap .i16 (.at (.var 1) (.add (.mul (.add (.lit 0) (.var 0)) (.lit 5)) (.lit 2))))
    (.bind (.at (.var 1) (.add (.mul (.add (.lit 0) (.var 0)) (.lit 5)) (.lit 3)))
    (.bind (.at (.var 1) (.add (.mul (.add (.lit 0) (.var 0)) (.lit 5)) (.lit 4)))
    (.ite (.not (.and (.eq (.wrap .i8 (.at (.var 0) (.mul (.add (.lit 0) (.var 0)) (.lit 5)))) (.wrap .i8 (.at (.var 1) (.mul (.add (.lit 0) (.var 0)) (.lit 5))))) (.and (.eq (.wrap .i16 (.at (.var 0) (.add (.mul (.add (.lit 0) (.var 0)) (.lit 5)) (.lit 1)))) (.wrap .i16 (.at (.var 1) (.add (.mul (.add (.lit 0) (.var 0)) (.lit 5)) (.lit 1))))) (.and (.eq (.wrap .i16 (.at (.var 0) (.add (.mul (.add (.lit 0) (.var 0)) (.lit 5)) (.lit 2)))) (.wrap .i16 (.at (.var 1) (.add (.mul (.add (.lit 0) (.var 0)) (.lit 5)) (.lit 2))))) (.and (.eq (.at (.var 0) (.add (.mul (.add (.lit 0) (.var 0)) (.lit 5)) (.lit 3))) (.at (.var 1) (.add (.mul (.add (.lit 0) (.var 0)) (.lit 5)) (.lit 3)))) (.eq (.at (.var 0) (.add (.mul (.add (.lit 0) (.var 0)) (.lit 5)) (.lit 4))) (.at (.var 1) (.add (.mul (.add (.lit 0) (.var 0)) (.lit 5)) (.lit 4)))))))))
     (.fin (.e (.lit 0) .nil))
     (.bind (.wrap .i64 (.add (.var 0) (.lit 1)))
     (.again 1 0 2 [⟨(-9223372036854775808), 9223372036854775807⟩] [(.var 11)] []))))))))))))))
    (.fin (.e (.lit 1) .nil)))))
theorem vc9 : vcOfI ⟨c9, [(4, ⟨1, [5], [], [11, 12, 13, 14, 17, 18, 19, 20, 21, 22, 23, 24, 25, 4, 15, 16], [⟨(-9223372036854775808), 9223372036854775807⟩], []⟩)]⟩ iv9 (parLvs s9.params) 250 Try.f9 s9 = t9 := by kernel_rfl
set_option linter.unusedVariables false in
def p9 (T : Tab) (I : Nat → Env → Env → Prop) (M : Nat → Env → Env → Nat) (pre : Nat → List Int → List (List Int) → Prop) (post : List Int → List (List Int) → Prop) (l0 l1 : List Int) : Prop :=
 (((!decide ((((List.length l0 : Int) / 5) : Int) = ((List.length l1 : Int) / 5))) = true →
  post [0] []) ∧ ((!decide ((((List.length l0 : Int) / 5) : Int) = ((List.length l1 : Int) / 5))) = false →
  ((allHas [⟨(-9223372036854775808), 9223372036854775807⟩] [0] ∧ I 1 ⟨[], [l0, l1]⟩ ⟨[0], []⟩) ∧ ∀ v0 : Int, allHas [⟨(-9223372036854775808), 9223372036854775807⟩] [v0] → I 1 ⟨[], [l0, l1]⟩ ⟨[v0], []⟩ →
   ((decide ((v0 : Int) < ((List.length l0 : Int) / 5)) = true →
    ((decide ((0 : Int) ≤ v0) = true ∧ decide ((v0 : Int) < ((List.length l0 : Int) / 5)) = true ∧ decide (((((0 + v0) * 5) + 4) : Int) < (List.length l0 : Int)) = true ∧ decide ((0 : Int) ≤ v0) = true ∧ decide ((v0 : Int) < ((List.length l1 : Int) / 5)) = true ∧ decide (((((0 + v0) * 5) + 4) : Int) < (List.length l1 : Int)) = true) ∧ ((decide ((0 : Int) ≤ v0) = true ∧ decide ((v0 : Int) < ((List.length l0 : Int) / 5)) = true ∧ decide (((((0 + v0) * 5) + 4) : Int) < (List.length l0 : Int)) = true ∧ decide ((0 : Int) ≤ v0) = true ∧ decide ((v0 : Int) < ((List.length l1 : Int) / 5)) = true ∧ decide (((((0 + v0) * 5) + 4) : Int) < (List.length l1 : Int)) = true) →
    ∀ v1 : Int, v1 = (IntKind.wrap .i8 (List.getD l0 (Int.toNat ((0 + v0) * 5)) 0)) →
    ∀ v2 : Int, v2 = (IntKind.wrap .i16 (List.getD l0 (Int.toNat (((0 + v0) * 5) + 1)) 0)) →
    ∀ v3 : Int, v3 = (IntKind.wrap .i16 (List.getD l0 (Int.toNat (((0 + v0) * 5) + 2)) 0)) →
    ∀ v4 : Int, v4 = (List.getD l0 (Int.toNat (((0 + v0) * 5) + 3)) 0) →
    ∀ v5 : Int, v5 = (List.getD l0 (Int.toNat (((0 + v0) * 5) + 4)) 0) →
    ∀ v6 : Int, v6 = (IntKind.wrap .i8 (List.getD l1 (Int.toNat ((0 + v0) * 5)) 0)) →
    ∀ v7 : Int, v7 = (IntKind.wrap .i16 (List.getD l1 (Int.toNat (((0 + v0) * 5) + 1)) 0)) →
    ∀ v8 : Int, v8 = (IntKind.wrap .i16 (List.getD l1 (Int.toNat (((0 + v0) * 5) + 2)) 0)) →
    ∀ v9 : Int, v9 = (List.getD l1 (Int.toNat (((0 + v0) * 5) + 3)) 0) →
    ∀ v10 : Int, v10 = (List.getD l1 (Int.toNat (((0 + v0) * 5) + 4)) 0) →
    (((!(decide (((IntKind.wrap .i8 (List.getD l0 (Int.toNat ((0 + v0) * 5)) 0)) : Int) = (IntKind.wrap .i8 (List.getD l1 (Int.toNat ((0 + v0) * 5)) 0))) && (decide (((IntKind.wrap .i16 (List.getD l0 (Int.toNat (((0 + v0) * 5) + 1)) 0)) : Int) = (IntKind.wrap .i16 (List.getD l1 (Int.toNat (((0 + v0) * 5) + 1)) 0))) && (decide (((IntKind.wrap .i16 (List.getD l0 (Int.toNat (((0 + v0) * 5) + 2)) 0)) : Int) = (IntKind.wrap .i16 (List.getD l1 (Int.toNat (((0 + v0) * 5) + 2)) 0))) && (decide (((List.getD l0 (Int.toNat (((0 + v0) * 5) + 3)) 0) : Int) = (List.getD l1 (Int.toNat (((0 + v0) * 5) + 3)) 0)) && decide (((List.getD l0 (Int.toNat (((0 + v0) * 5) + 4)) 0) : Int) = (List.getD l1 (Int.toNat (((0 + v0) * 5) + 4)) 0))))))) = true →
     post [0] []) ∧ ((!(decide (((IntKind.wrap .i8 (List.getD l0 (Int.toNat ((0 + v0) * 5)) 0)) : Int) = (IntKind.wrap .i8 (List.getD l1 (Int.toNat ((0 + v0) * 5)) 0))) && (decide (((IntKind.wrap .i16 (List.getD l0 (Int.toNat (((0 + v0) * 5) + 1)) 0)) : Int) = (IntKind.wrap .i16 (List.getD l1 (Int.toNat (((0 + v0) * 5) + 1)) 0))) && (decide (((IntKind.wrap .i16 (List.getD l0 (Int.toNat (((0 + v0) * 5) + 2)) 0)) : Int) = (IntKind.wrap .i16 (List.getD l1 (Int.toNat (((0 + v0) * 5) + 2)) 0))) && (decide (((List.getD l0 (Int.toNat (((0 + v0) * 5) + 3)) 0) : Int) = (List.getD l1 (Int.toNat (((0 + v0) * 5) + 3)) 0)) && decide (((List.getD l0 (Int.toNat (((0 + v0) * 5) + 4)) 0) : Int) = (List.getD l1 (Int.toNat (((0 + v0) * 5) + 4)) 0))))))) = false →
     ∀ v11 : Int, v11 = (IntKind.wrap .i64 (v0 + 1)) →
     (allHas [⟨(-9223372036854775808), 9223372036854775807⟩] [v11] ∧ I 1 ⟨[], [l0, l1]⟩ ⟨[v11], []⟩ ∧ M 1 ⟨[], [l0, l1]⟩ ⟨[v11], []⟩ < M 1 ⟨[], [l0, l1]⟩ ⟨[v0], []⟩)))))) ∧ (decide ((v0 : Int) < ((List.length l0 : Int) / 5)) = false →
    post [1] [])))))
theorem q9 (T : Tab) (I : Nat → Env → Env → Prop) (M : Nat → Env → Env → Nat) (pre : Nat → List Int → List (List Int) → Prop) (post : List Int → List (List Int) → Prop) (l0 l1 : List Int) : t9.plain T (presG pre I M) post ⟨[], [l0, l1]⟩ = p9 T I M pre post l0 l1 := by kernel_rfl
theorem k9 (T : Tab) (I : Nat → Env → Env → Prop) (M : Nat → Env → Env → Nat) (pre : Nat → List Int → List (List Int) → Prop) (hs : SubSig T c9.sigs) (ht : TotG pre c9.sigs) (hg : T.sig 9 = some s9) (hC : CtAll Try.prog T.fns (presQ pre) c9.sigs) (hk : CpAll Try.prog c9.cps) (hi : ∀ xs ls, allHas (parIvs s9.params) xs → pre 9 xs ls → allHas iv9 xs)
    (h : ∀ (l0 l1 : List Int), allHas iv9 [] → allL (parLvs s9.params) [l0, l1] → pre 9 [] [l0, l1] → p9 T I M pre (fun ys _ => ys = T.app 9 [] [l0, l1]) l0 l1) : CT Try.prog T.fns (presQ pre) 9 s9 :=
  T.ctg (F := ⟨c9, [(4, ⟨1, [5], [], [11, 12, 13, 14, 17, 18, 19, 20, 21, 22, 23, 24, 25, 4, 15, 16], [⟨(-9223372036854775808), 9223372036854775807⟩], []⟩)]⟩) (fuel := 250) vc9 Try.checked.mixed hs ht hg hC hk Try.func9 I M (fun xs ls h1 h2 h3 => ⟨hi xs ls h1 h3, h2⟩) fun xs ls hx hl hp => by
    match xs, ls, hx, hl, hp with
    | [], [l0, l1], hx, hl, hp => rw [q9]; exact h l0 l1 hx hl hp
/-- slices.Equal[[]loop.example/g01242/impl.Node,loop.example/g01242/impl.Node] -/
def s29 : Sig := ⟨[.lst [.i8, .i16, .i16, .i64, .i64], .lst [.i8, .i16, .i16, .i64, .i64]], [(false, [.b])], true⟩
noncomputable def c29 : Cfg := ⟨Try.prog, [], []⟩
def iv29 : List Iv := []
def t29 : VC :=
 (.ite (.not (.eq (.div (.len (.var 0)) (.lit 5)) (.div (.len (.var 1)) (.lit 5))))
  (.fin (.e (.lit 0) .nil))
  (.loop 1 [(.lit 0)] [] [⟨(-9223372036854775808), 9223372036854775807⟩] []
   (.ite (.lt (.var 0) (.div (.len (.var 0)) (.lit 5)))
    (.need [(.b (.le (.lit 0) (.var 0))), (.b (.lt (.var 0) (.div (.len (.var 0)) (.lit 5)))), (.b (.lt (.add (.mul (.add (.lit 0) (.var 0)) (.lit 5)) (.lit 4)) (.len (.var 0)))), (.b (.le (.lit 0) (.var 0))), (.b (.lt (.var 0) (.div (.len (.var 1)) (.lit 5)))), (.b (.lt (.add (.mul (.add (.lit 0) (.var 0)) (.lit 5)) (.lit 4)) (.len (.var 1))))]
    (.bind (.wrap .i8 (.at (.var 0) (.mul (.add (.lit 0) (.var 0)) (.lit 5))))
    (.bind (.wrap .i16 (.at (.var 0) (.add (.mul (.add (.lit 0) (.var 0)) (.lit 5)) (.lit 1))))
    (.bind (.wrap .i16 (.at (.var 0) (.add (.mul (.add (.lit 0) (.var 0)) (.lit 5)) (.lit 2))))
    (.bind (.at (.var 0) (.add (.mul (.add (.lit 0) (.var 0)) (.lit 5)) (.lit 3)))
    (.bind (.at (.var 0) (.add (.mul (.add (.lit 0) (.var 0)) (.lit 5)) (.lit 4)))
    (.bind (.wrap .i8 (.at (.var 1) (.mul (.add (.lit 0) (.var 0)) (.lit 5))))
    (.bind (.wrap .i16 (.at (.var 1) (.add (.mul (.add (.lit 0) (.var 0)) (.lit 5)) (.lit 1))))
    (.bind (.wrap .i16 (.at (.var 1) (.add (.mul (.add (.lit 0) (.var 0)) (.lit 5)) (.lit 2))))
    (.bind (.at (.var 1) (.add (.mul (.add (.lit 0) (.var 0)) (.lit 5)) (.lit 3)))
    (.bind (.at (.var 1) (.add (.mul (.add (.lit 0) (.var 0)) (.lit 5)) (.lit 4)))
    (.ite (.not (.and (.eq (.wrap .i8 (.at (.var 0) (.mul (.add (.lit 0) (.var 0)) (.lit 5)))) (.wrap .i8 (.at (.var 1) (.mul (.add (.lit 0) (.var 0)) (.lit 5))))) (.and (.eq (.wrap .i16 (.at (.var 0) (.add (.mul (.add (.lit 0) (.var 0)) (.lit 5)) (.lit 1)))) (.wrap .i16 (.at (.var 1) (.add (.mul (.add (.lit 0) (.var 0)) (.lit 5)) (.lit 1))))) (.and (.eq (.wrap .i16 (.at (.var 0) (.add (.mul (.add (.lit 0) (.var 0)) (.lit 5)) (.lit 2)))) (.wrap .i16 (.at (.var 1) (.add (.mul (.add (.lit 0) (.var 0)) (.lit 5)) (.lit 2))))) (.and (.eq (.at (.var 0) (.add (.mul (.add (.lit 0) (.var 0)) (.lit 5)) (.lit 3))) (.at (.var 1) (.add (.mul (.add (.lit 0) (.var 0)) (.lit 5)) (.lit 3)))) (.eq (.at (.var 0) (.add (.mul (.add (.lit 0) (.var 0)) (.lit 5)) (.lit 4))) (.at (.var 1) (.add (.mul (.add (.lit 0) (.var 0)) (.lit 5)) (.lit 4)))))))))
     (.fin (.e (.lit 0) .nil))
     (.again 1 0 2 [⟨(-9223372036854775808), 9223372036854775807⟩] [(.wrap .i64 (.add (.var 0) (.lit 1)))] [])))))))))))))
    (.fin (.e (.lit 1) .nil)))))
theorem vc29 : vcOfI ⟨c29, [(4, ⟨1, [13], [], [14, 15, 5, 16, 17, 18, 19, 20, 21, 22, 23, 24, 4, 25], [⟨(-9223372036854775808), 9223372036854775807⟩], []⟩)]⟩ iv29 (parLvs s29.params) 250 Try.f29 s29 = t29 := by kernel_rfl
set_option linter.unusedVariables false in
def p29 (T : Tab) (I : Nat → Env → Env → Prop) (M : Nat → Env → Env → Nat) (pre : Nat → List Int → List (List Int) → Prop) (post : List Int → List (List Int) → Prop) (l0 l1 : List Int) : Prop :=
 (((!decide ((((List.length l0 : Int) / 5) : Int) = ((List.length l1 : Int) / 5))) = true →
  post [0] []) ∧ ((!decide ((((List.length l0 : Int) / 5) : Int) = ((List.length l1 : Int) / 5))) = false →
  ((allHas [⟨(-9223372036854775808), 9223372036854775807⟩] [0] ∧ I 1 ⟨[], [l0, l1]⟩ ⟨[0], []⟩) ∧ ∀ v0 : Int, allHas [⟨(-9223372036854775808), 9223372036854775807⟩] [v0] → I 1 ⟨[], [l0, l1]⟩ ⟨[v0], []⟩ →
   ((decide ((v0 : Int) < ((List.length l0 : Int) / 5)) = true →
    ((decide ((0 : Int) ≤ v0) = true ∧ decide ((v0 : Int) < ((List.length l0 : Int) / 5)) = true ∧ decide (((((0 + v0) * 5) + 4) : Int) < (List.length l0 : Int)) = true ∧ decide ((0 : Int) ≤ v0) = true ∧ decide ((v0 : Int) < ((List.length l1 : Int) / 5)) = true ∧ decide (((((0 + v0) * 5) + 4) : Int) < (List.length l1 : Int)) = true) ∧ ((decide ((0 : Int) ≤ v0) = true ∧ decide ((v0 : Int) < ((List.length l0 : Int) / 5)) = true ∧ decide (((((0 + v0) * 5) + 4) : Int) < (List.length l0 : Int)) = true ∧ decide ((0 : Int) ≤ v0) = true ∧ decide ((v0 : Int) < ((List.length l1 : Int) / 5)) = true ∧ decide (((((0 + v0) * 5) + 4) : Int) < (List.length l1 : Int)) = true) →
    ∀ v1 : Int, v1 = (IntKind.wrap .i8 (List.getD l0 (Int.toNat ((0 + v0) * 5)) 0)) →
    ∀ v2 : Int, v2 = (IntKind.wrap .i16 (List.getD l0 (Int.toNat (((0 + v0) * 5) + 1)) 0)) →
    ∀ v3 : Int, v3 = (IntKind.wrap .i16 (List.getD l0 (Int.toNat (((0 + v0) * 5) + 2)) 0)) →
    ∀ v4 : Int, v4 = (List.getD l0 (Int.toNat (((0 + v0) * 5) + 3)) 0) →
    ∀ v5 : Int, v5 = (List.getD l0 (Int.toNat (((0 + v0) * 5) + 4)) 0) →
    ∀ v6 : Int, v6 = (IntKind.wrap .i8 (List.getD l1 (Int.toNat ((0 + v0) * 5)) 0)) →
    ∀ v7 : Int, v7 = (IntKind.wrap .i16 (List.getD l1 (Int.toNat (((0 + v0) * 5) + 1)) 0)) →
    ∀ v8 : Int, v8 = (IntKind.wrap .i16 (List.getD l1 (Int.toNat (((0 + v0) * 5) + 2)) 0)) →
    ∀ v9 : Int, v9 = (List.getD l1 (Int.toNat (((0 + v0) * 5) + 3)) 0) →
    ∀ v10 : Int, v10 = (List.getD l1 (Int.toNat (((0 + v0) * 5) + 4)) 0) →
    (((!(decide (((IntKind.wrap .i8 (List.getD l0 (Int.toNat ((0 + v0) * 5)) 0)) : Int) = (IntKind.wrap .i8 (List.getD l1 (Int.toNat ((0 + v0) * 5)) 0))) && (decide (((IntKind.wrap .i16 (List.getD l0 (Int.toNat (((0 + v0) * 5) + 1)) 0)) : Int) = (IntKind.wrap .i16 (List.getD l1 (Int.toNat (((0 + v0) * 5) + 1)) 0))) && (decide (((IntKind.wrap .i16 (List.getD l0 (Int.toNat (((0 + v0) * 5) + 2)) 0)) : Int) = (IntKind.wrap .i16 (List.getD l1 (Int.toNat (((0 + v0) * 5) + 2)) 0))) && (decide (((List.getD l0 (Int.toNat (((0 + v0) * 5) + 3)) 0) : Int) = (List.getD l1 (Int.toNat (((0 + v0) * 5) + 3)) 0)) && decide (((List.getD l0 (Int.toNat (((0 + v0) * 5) + 4)) 0) : Int) = (List.getD l1 (Int.toNat (((0 + v0) * 5) + 4)) 0))))))) = true →
     post [0] []) ∧ ((!(decide (((IntKind.wrap .i8 (List.getD l0 (Int.toNat ((0 + v0) * 5)) 0)) : Int) = (IntKind.wrap .i8 (List.getD l1 (Int.toNat ((0 + v0) * 5)) 0))) && (decide (((IntKind.wrap .i16 (List.getD l0 (Int.toNat (((0 + v0) * 5) + 1)) 0)) : Int) = (IntKind.wrap .i16 (List.getD l1 (Int.toNat (((0 + v0) * 5) + 1)) 0))) && (decide (((IntKind.wrap .i16 (List.getD l0 (Int.toNat (((0 + v0) * 5) + 2)) 0)) : Int) = (IntKind.wrap .i16 (List.getD l1 (Int.toNat (((0 + v0) * 5) + 2)) 0))) && (decide (((List.getD l0 (Int.toNat (((0 + v0) * 5) + 3)) 0) : Int) = (List.getD l1 (Int.toNat (((0 + v0) * 5) + 3)) 0)) && decide (((List.getD l0 (Int.toNat (((0 + v0) * 5) + 4)) 0) : Int) = (List.getD l1 (Int.toNat (((0 + v0) * 5) + 4)) 0))))))) = false →
     (allHas [⟨(-9223372036854775808), 9223372036854775807⟩] [(IntKind.wrap .i64 (v0 + 1))] ∧ I 1 ⟨[], [l0, l1]⟩ ⟨[(IntKind.wrap .i64 (v0 + 1))], []⟩ ∧ M 1 ⟨[], [l0, l1]⟩ ⟨[(IntKind.wrap .i64 (v0 + 1))], []⟩ < M 1 ⟨[], [l0, l1]⟩ ⟨[v0], []⟩)))))) ∧ (decide ((v0 : Int) < ((List.length l0 : Int) / 5)) = false →
    post [1] [])))))
theorem q29 (T : Tab) (I : Nat → Env → Env → Prop) (M : Nat → Env → Env → Nat) (pre : Nat → List Int → List (List Int) → Prop) (post : List Int → List (List Int) → Prop) (l0 l1 : List Int) : t29.plain T (presG pre I M) post ⟨[], [l0, l1]⟩ = p29 T I M pre post l0 l1 := by kernel_rfl
theorem k29 (T : Tab) (I : Nat → Env → Env → Prop) (M : Nat → Env → Env → Nat) (pre : Nat → List Int → List (List Int) → Prop) (hs : SubSig T c29.sigs) (ht : TotG pre c29.sigs) (hg : T.sig 29 = some s29) (hC : CtAll Try.prog T.fns (presQ pre) c29.sigs) (hk : CpAll Try.prog c29.cps) (hi : ∀ xs ls, allHas (parIvs s29.params) xs → pre 29 xs ls → allHas iv29 xs)
    (h : ∀ (l0 l1 : List Int), allHas iv29 [] → allL (parLvs s29.params) [l0, l1] → pre 29 [] [l0, l1] → p29 T I M pre (fun ys _ => ys = T.app 29 [] [l0, l1]) l0 l1) : CT Try.prog T.fns (presQ pre) 29 s29 :=
  T.ctg (F := ⟨c29, [(4, ⟨1, [13], [], [14, 15, 5, 16, 17, 18, 19, 20, 21, 22, 23, 24, 4, 25], [⟨(-9223372036854775808), 9223372036854775807⟩], []⟩)]⟩) (fuel := 250) vc29 Try.checked.mixed hs ht hg hC hk Try.func29 I M (fun xs ls h1 h2 h3 => ⟨hi xs ls h1 h3, h2⟩) fun xs ls hx hl hp => by
    match xs, ls, hx, hl, hp with
    | [], [l0, l1], hx, hl, hp => rw [q29]; exact h l0 l1 hx hl hp
/-- loop.example/g01242/impl.SameTerm -/
def s11 : Sig := ⟨[.lst [.i8, .i16, .i16, .i64, .i64], .lst [.i8, .i16, .i16, .i64, .i64]], [(false, [.b])], true⟩
noncomputable def c11 : Cfg := ⟨Try.prog, [(29, s29)], []⟩
def iv11 : List Iv := []
def t11 : VC :=
 (.call 29 (.l (.var 0) (.l (.var 1) .nil)) 1
 (.fin (.e (.var 0) .nil)))
theorem vc11 : vcOfI ⟨c11, []⟩ iv11 (parLvs s11.params) 250 Try.f11 s11 = t11 := by kernel_rfl
set_option linter.unusedVariables false in
def p11 (T : Tab) (I : Nat → Env → Env → Prop) (M : Nat → Env → Env → Nat) (pre : Nat → List Int → List (List Int) → Prop) (post : List Int → List (List Int) → Prop) (l0 l1 : List Int) : Prop :=
 ∀ v0 : Int, [v0] = T.outL 29 1 [] [l0, l1] →
 post [v0] []
theorem q11 (T : Tab) (I : Nat → Env → Env → Prop) (M : Nat → Env → Env → Nat) (pre : Nat → List Int → List (List Int) → Prop) (post : List Int → List (List Int) → Prop) (l0 l1 : List Int) : t11.plain T (presG pre I M) post ⟨[], [l0, l1]⟩ = p11 T I M pre post l0 l1 := by kernel_rfl
theorem k11 (T : Tab) (I : Nat → Env → Env → Prop) (M : Nat → Env → Env → Nat) (pre : Nat → List Int → List (List Int) → Prop) (hs : SubSig T c11.sigs) (ht : TotG pre c11.sigs) (hg : T.sig 11 = some s11) (hC : CtAll Try.prog T.fns (presQ pre) c11.sigs) (hk : CpAll Try.prog c11.cps) (hi : ∀ xs ls, allHas (parIvs s11.params) xs → pre 11 xs ls → allHas iv11 xs)
    (h : ∀ (l0 l1 : List Int), allHas iv11 [] → allL (parLvs s11.params) [l0, l1] → pre 11 [] [l0, l1] → p11 T I M pre (fun ys _ => ys = T.app 11 [] [l0, l1]) l0 l1) : CT Try.prog T.fns (presQ pre) 11 s11 :=
  T.ctg (F := ⟨c11, []⟩) (fuel := 250) vc11 Try.checked.mixed hs ht hg hC hk Try.func11 I M (fun xs ls h1 h2 h3 => ⟨hi xs ls h1 h3, h2⟩) fun xs ls hx hl hp => by
    match xs, ls, hx, hl, hp with
    | [], [l0, l1], hx, hl, hp => rw [q11]; exact h l0 l1 hx hl hp
/-- loop.example/g01242/laws.FnExactSameTerm -/
def s3 : Sig := ⟨[.lst [.i8, .i16, .i16, .i64, .i64], .lst [.i8, .i16, .i16, .i64, .i64]], [(false, [.b])], true⟩
noncomputable def c3 : Cfg := ⟨Try.prog, [(8, s8), (9, s9), (11, s11), (12, s12)], [(10, s10, y10)]⟩
def iv3 : List Iv := []
def t3 : VC :=
 (.call 8 (.l (.var 0) (.e (.lit 1048576) .nil)) 1
 (.ite (.lt (.var 0) (.lit 0))
  (.fin (.e (.lit 1) .nil))
  (.call 8 (.l (.var 1) (.e (.var 0) .nil)) 1
  (.ite (.lt (.var 1) (.lit 0))
   (.fin (.e (.lit 1) .nil))
   (.need [(.b (.le (.len (.var 0)) (.lit 1099511627776)))]
   (.need [(.b (.le (.len (.var 1)) (.lit 1099511627776)))]
   (.call 9 (.l (.var 0) (.l (.var 1) .nil)) 1
   (.need [(.b (.le (.len (.var 0)) (.lit 1099511627776)))]
   (.need [(.b (.le (.len (.var 1)) (.lit 1099511627776)))]
   (.call 11 (.l (.var 0) (.l (.var 1) .nil)) 1
   (.ite (.not (.beq (.eq (.var 3) (.lit 1)) (.eq (.var 2) (.lit 1))))
    (.fin (.e (.lit 0) .nil))
    (.need [(.b (.le (.len (.var 0)) (.lit 1099511627776)))]
    (.call 12 (.l (.var 0) (.l (.var 0) .nil)) 1
    (.ite (.not (.eq (.var 4) (.lit 1)))
     (.fin (.e (.lit 0) .nil))
     (.need [(.b (.le (.len (.var 1)) (.lit 1099511627776)))]
     (.call 12 (.l (.var 1) (.l (.var 1) .nil)) 1
     (.ite (.not (.eq (.var 5) (.lit 1)))
      (.fin (.e (.lit 0) .nil))
      (.fin (.e (.lit 1) .nil)))))))))))))))))))
theorem vc3 : vcOfI ⟨c3, []⟩ iv3 (parLvs s3.params) 250 Try.f3 s3 = t3 := by kernel_rfl
set_option linter.unusedVariables false in
def p3 (T : Tab) (I : Nat → Env → Env → Prop) (M : Nat → Env → Env → Nat) (pre : Nat → List Int → List (List Int) → Prop) (post : List Int → List (List Int) → Prop) (l0 l1 : List Int) : Prop :=
 ∀ v0 : Int, [v0] = T.outL 8 1 [1048576] [l0] →
 ((decide ((v0 : Int) < 0) = true →
  post [1] []) ∧ (decide ((v0 : Int) < 0) = false →
  ∀ v1 : Int, [v1] = T.outL 8 1 [v0] [l1] →
  ((decide ((v1 : Int) < 0) = true →
   post [1] []) ∧ (decide ((v1 : Int) < 0) = false →
   ((decide (((List.length l0 : Int) : Int) ≤ 1099511627776) = true) ∧ ((decide (((List.length l0 : Int) : Int) ≤ 1099511627776) = true) →
   ((decide (((List.length l1 : Int) : Int) ≤ 1099511627776) = true) ∧ ((decide (((List.length l1 : Int) : Int) ≤ 1099511627776) = true) →
   ∀ v2 : Int, [v2] = T.outL 9 1 [] [l0, l1] →
   ((decide (((List.length l0 : Int) : Int) ≤ 1099511627776) = true) ∧ ((decide (((List.length l0 : Int) : Int) ≤ 1099511627776) = true) →
   ((decide (((List.length l1 : Int) : Int) ≤ 1099511627776) = true) ∧ ((decide (((List.length l1 : Int) : Int) ≤ 1099511627776) = true) →
   ∀ v3 : Int, [v3] = T.outL 11 1 [] [l0, l1] →
   (((!(decide ((v3 : Int) = 1) == decide ((v2 : Int) = 1))) = true →
    post [0] []) ∧ ((!(decide ((v3 : Int) = 1) == decide ((v2 : Int) = 1))) = false →
    ((decide (((List.length l0 : Int) : Int) ≤ 1099511627776) = true) ∧ ((decide (((List.length l0 : Int) : Int) ≤ 1099511627776) = true) →
    ∀ v4 : Int, [v4] = T.outL 12 1 [] [l0, l0] →
    (((!decide ((v4 : Int) = 1)) = true →
     post [0] []) ∧ ((!decide ((v4 : Int) = 1)) = false →
     ((decide (((List.length l1 : Int) : Int) ≤ 1099511627776) = true) ∧ ((decide (((List.length l1 : Int) : Int) ≤ 1099511627776) = true) →
     ∀ v5 : Int, [v5] = T.outL 12 1 [] [l1, l1] →
     (((!decide ((v5 : Int) = 1)) = true →
      post [0] []) ∧ ((!decide ((v5 : Int) = 1)) = false →
      post [1] []))))))))))))))))))))))
theorem q3 (T : Tab) (I : Nat → Env → Env → Prop) (M : Nat → Env → Env → Nat) (pre : Nat → List Int → List (List Int) → Prop) (post : List Int → List (List Int) → Prop) (l0 l1 : List Int) : t3.plain T (presG pre I M) post ⟨[], [l0, l1]⟩ = p3 T I M pre post l0 l1 := by kernel_rfl
theorem k3 (T : Tab) (I : Nat → Env → Env → Prop) (M : Nat → Env → Env → Nat) (pre : Nat → List Int → List (List Int) → Prop) (hs : SubSig T c3.sigs) (ht : TotG pre c3.sigs) (hg : T.sig 3 = some s3) (hC : CtAll Try.prog T.fns (presQ pre) c3.sigs) (hk : CpAll Try.prog c3.cps) (hi : ∀ xs ls, allHas (parIvs s3.params) xs → pre 3 xs ls → allHas iv3 xs)
    (h : ∀ (l0 l1 : List Int), allHas iv3 [] → allL (parLvs s3.params) [l0, l1] → pre 3 [] [l0, l1] → p3 T I M pre (fun ys _ => ys = T.app 3 [] [l0, l1]) l0 l1) : CT Try.prog T.fns (presQ pre) 3 s3 :=
  T.ctg (F := ⟨c3, []⟩) (fuel := 250) vc3 Try.checked.mixed hs ht hg hC hk Try.func3 I M (fun xs ls h1 h2 h3 => ⟨hi xs ls h1 h3, h2⟩) fun xs ls hx hl hp => by
    match xs, ls, hx, hl, hp with
    | [], [l0, l1], hx, hl, hp => rw [q3]; exact h l0 l1 hx hl hp
end Go.Proofs.Ytcggjbabokhbnaa.Sx
