import Derived.Test.YtfpodondpanmaaaSxY
import Derived.Test.YtfpodondpanmaaaA1
import Derived.Test.YtfpodondpanmaaaB1
import Derived.Test.YtfpodondpanmaaaChecked
import Derived.KernelRfl
namespace Go.Proofs.Ytfpodondpanmaaa.Sx
open Go Go.RowKit
/-- loop.example/g01242/laws.toUint32A6 -/
def s68 : Sig := ⟨[.val true [.i .u32, .i .u32, .i .u32, .i .u32, .i .u32, .i .u32]], [(true, [.i .u32, .i .u32, .i .u32, .i .u32, .i .u32, .i .u32])], true⟩
noncomputable def c68 : Cfg := ⟨Try.prog, [], [], [], []⟩
def iv68 : List Iv := [⟨0, 4294967295⟩, ⟨0, 4294967295⟩, ⟨0, 4294967295⟩, ⟨0, 4294967295⟩, ⟨0, 4294967295⟩, ⟨0, 4294967295⟩]
def t68 : VC :=
 (.fin (.e (.var 0) (.e (.var 1) (.e (.var 2) (.e (.var 3) (.e (.var 4) (.e (.var 5) .nil)))))))
theorem vc68 : vcOfI ⟨c68, []⟩ iv68 (parLvs s68.params) 250 Try.f68 s68 = t68 := by kernel_rfl
set_option linter.unusedVariables false in
def p68 (T : Tab) (I : Nat → Env → Env → Prop) (M : Nat → Env → Env → Nat) (pre : Nat → List Int → List (List Int) → Prop) (post : List Int → List (List Int) → Prop) (v0 v1 v2 v3 v4 v5 : Int) : Prop :=
 post [v0, v1, v2, v3, v4, v5] []
theorem q68 (T : Tab) (I : Nat → Env → Env → Prop) (M : Nat → Env → Env → Nat) (pre : Nat → List Int → List (List Int) → Prop) (post : List Int → List (List Int) → Prop) (v0 v1 v2 v3 v4 v5 : Int) : t68.plain T (presG pre I M) post ⟨[v0, v1, v2, v3, v4, v5], []⟩ = p68 T I M pre post v0 v1 v2 v3 v4 v5 := by kernel_rfl
theorem k68 (T : Tab) (I : Nat → Env → Env → Prop) (M : Nat → Env → Env → Nat) (pre : Nat → List Int → List (List Int) → Prop) (hs : SubSig T c68.sigs) (ht : TotG pre c68.sigs) (hg : T.sig 68 = some s68) (hC : CtAll Try.prog T.fns (presQ pre) c68.sigs) (hk : CpAll Try.prog c68.cps) (hi : ∀ xs ls, allHas (parIvs s68.params) xs → pre 68 xs ls → allHas iv68 xs)
    (h : ∀ (v0 v1 v2 v3 v4 v5 : Int), allHas iv68 [v0, v1, v2, v3, v4, v5] → allL (parLvs s68.params) [] → pre 68 [v0, v1, v2, v3, v4, v5] [] → p68 T I M pre (fun ys _ => ys = T.app 68 [v0, v1, v2, v3, v4, v5] []) v0 v1 v2 v3 v4 v5) : CT Try.prog T.fns (presQ pre) 68 s68 :=
  T.ctg (F := ⟨c68, []⟩) (fuel := 250) vc68 Try.checked.mixed hs ht hg hC hk Try.func68 I M (fun xs ls h1 h2 h3 => ⟨hi xs ls h1 h3, h2⟩) fun xs ls hx hl hp => by
    match xs, ls, hx, hl, hp with
    | [v0, v1, v2, v3, v4, v5], [], hx, hl, hp => rw [q68]; exact h v0 v1 v2 v3 v4 v5 hx hl hp
/-- loop.example/g01242/laws.toWide -/
def s47 : Sig := ⟨[.val true [.b, .i .u32, .i .u32, .i .u32, .i .u32, .i .u32, .i .u32]], [(true, [.b, .i .u32, .i .u32, .i .u32, .i .u32, .i .u32, .i .u32])], true⟩
noncomputable def c47 : Cfg := ⟨Try.prog, [(68, s68)], [], [], []⟩
def iv47 : List Iv := [⟨0, 1⟩, ⟨0, 4294967295⟩, ⟨0, 4294967295⟩, ⟨0, 4294967295⟩, ⟨0, 4294967295⟩, ⟨0, 4294967295⟩, ⟨0, 4294967295⟩]
def t47 : VC :=
 (.call 68 (.e (.var 1) (.e (.var 2) (.e (.var 3) (.e (.var 4) (.e (.var 5) (.e (.var 6) .nil)))))) 6
 (.fin (.e (.var 0) (.e (.var 7) (.e (.var 8) (.e (.var 9) (.e (.var 10) (.e (.var 11) (.e (.var 12) .nil)))))))))
theorem vc47 : vcOfI ⟨c47, []⟩ iv47 (parLvs s47.params) 250 Try.f47 s47 = t47 := by kernel_rfl
set_option linter.unusedVariables false in
def p47 (T : Tab) (I : Nat → Env → Env → Prop) (M : Nat → Env → Env → Nat) (pre : Nat → List Int → List (List Int) → Prop) (post : List Int → List (List Int) → Prop) (v0 v1 v2 v3 v4 v5 v6 : Int) : Prop :=
 ∀ v7 v8 v9 v10 v11 v12 : Int, [v7, v8, v9, v10, v11, v12] = T.out 68 6 [v1, v2, v3, v4, v5, v6] →
 post [v0, v7, v8, v9, v10, v11, v12] []
theorem q47 (T : Tab) (I : Nat → Env → Env → Prop) (M : Nat → Env → Env → Nat) (pre : Nat → List Int → List (List Int) → Prop) (post : List Int → List (List Int) → Prop) (v0 v1 v2 v3 v4 v5 v6 : Int) : t47.plain T (presG pre I M) post ⟨[v0, v1, v2, v3, v4, v5, v6], []⟩ = p47 T I M pre post v0 v1 v2 v3 v4 v5 v6 := by kernel_rfl
theorem k47 (T : Tab) (I : Nat → Env → Env → Prop) (M : Nat → Env → Env → Nat) (pre : Nat → List Int → List (List Int) → Prop) (hs : SubSig T c47.sigs) (ht : TotG pre c47.sigs) (hg : T.sig 47 = some s47) (hC : CtAll Try.prog T.fns (presQ pre) c47.sigs) (hk : CpAll Try.prog c47.cps) (hi : ∀ xs ls, allHas (parIvs s47.params) xs → pre 47 xs ls → allHas iv47 xs)
    (h : ∀ (v0 v1 v2 v3 v4 v5 v6 : Int), allHas iv47 [v0, v1, v2, v3, v4, v5, v6] → allL (parLvs s47.params) [] → pre 47 [v0, v1, v2, v3, v4, v5, v6] [] → p47 T I M pre (fun ys _ => ys = T.app 47 [v0, v1, v2, v3, v4, v5, v6] []) v0 v1 v2 v3 v4 v5 v6) : CT Try.prog T.fns (presQ pre) 47 s47 :=
  T.ctg (F := ⟨c47, []⟩) (fuel := 250) vc47 Try.checked.mixed hs ht hg hC hk Try.func47 I M (fun xs ls h1 h2 h3 => ⟨hi xs ls h1 h3, h2⟩) fun xs ls hx hl hp => by
    match xs, ls, hx, hl, hp with
    | [v0, v1, v2, v3, v4, v5, v6], [], hx, hl, hp => rw [q47]; exact h v0 v1 v2 v3 v4 v5 v6 hx hl hp
/-- loop.example/g01242/laws.toPart -/
def s20 : Sig := ⟨[.val true [.b, .i .u32, .i .u32, .i .u32, .i .u32, .i .u32, .i .u32, .b, .i .u32, .i .u32, .i .u32, .i .u32, .i .u32, .i .u32, .i .i64]], [(true, [.b, .i .u32, .i .u32, .i .u32, .i .u32, .i .u32, .i .u32, .b, .i .u32, .i .u32, .i .u32, .i .u32, .i .u32, .i .u32, .i .i64])], true⟩
noncomputable def c20 : Cfg := ⟨Try.prog, [(47, s47)], [], [], []⟩
def iv20 : List Iv := [⟨0, 1⟩, ⟨0, 4294967295⟩, ⟨0, 4294967295⟩, ⟨0, 4294967295⟩, ⟨0, 4294967295⟩, ⟨0, 4294967295⟩, ⟨0, 4294967295⟩, ⟨0, 1⟩, ⟨0, 4294967295⟩, ⟨0, 4294967295⟩, ⟨0, 4294967295⟩, ⟨0, 4294967295⟩, ⟨0, 4294967295⟩, ⟨0, 4294967295⟩, ⟨(-9223372036854775808), 9223372036854775807⟩]
def t20 : VC :=
 (.call 47 (.e (.var 0) (.e (.var 1) (.e (.var 2) (.e (.var 3) (.e (.var 4) (.e (.var 5) (.e (.var 6) .nil))))))) 7
 (.call 47 (.e (.var 7) (.e (.var 8) (.e (.var 9) (.e (.var 10) (.e (.var 11) (.e (.var 12) (.e (.var 13) .nil))))))) 7
 (.fin (.e (.var 15) (.e (.var 16) (.e (.var 17) (.e (.var 18) (.e (.var 19) (.e (.var 20) (.e (.var 21) (.e (.var 22) (.e (.var 23) (.e (.var 24) (.e (.var 25) (.e (.var 26) (.e (.var 27) (.e (.var 28) (.e (.var 14) .nil))))))))))))))))))
theorem vc20 : vcOfI ⟨c20, []⟩ iv20 (parLvs s20.params) 250 Try.f20 s20 = t20 := by kernel_rfl
set_option linter.unusedVariables false in
def p20 (T : Tab) (I : Nat → Env → Env → Prop) (M : Nat → Env → Env → Nat) (pre : Nat → List Int → List (List Int) → Prop) (post : List Int → List (List Int) → Prop) (v0 v1 v2 v3 v4 v5 v6 v7 v8 v9 v10 v11 v12 v13 v14 : Int) : Prop :=
 ∀ v15 v16 v17 v18 v19 v20 v21 : Int, [v15, v16, v17, v18, v19, v20, v21] = T.out 47 7 [v0, v1, v2, v3, v4, v5, v6] →
 ∀ v22 v23 v24 v25 v26 v27 v28 : Int, [v22, v23, v24, v25, v26, v27, v28] = T.out 47 7 [v7, v8, v9, v10, v11, v12, v13] →
 post [v15, v16, v17, v18, v19, v20, v21, v22, v23, v24, v25, v26, v27, v28, v14] []
theorem q20 (T : Tab) (I : Nat → Env → Env → Prop) (M : Nat → Env → Env → Nat) (pre : Nat → List Int → List (List Int) → Prop) (post : List Int → List (List Int) → Prop) (v0 v1 v2 v3 v4 v5 v6 v7 v8 v9 v10 v11 v12 v13 v14 : Int) : t20.plain T (presG pre I M) post ⟨[v0, v1, v2, v3, v4, v5, v6, v7, v8, v9, v10, v11, v12, v13, v14], []⟩ = p20 T I M pre post v0 v1 v2 v3 v4 v5 v6 v7 v8 v9 v10 v11 v12 v13 v14 := by kernel_rfl
theorem k20 (T : Tab) (I : Nat → Env → Env → Prop) (M : Nat → Env → Env → Nat) (pre : Nat → List Int → List (List Int) → Prop) (hs : SubSig T c20.sigs) (ht : TotG pre c20.sigs) (hg : T.sig 20 = some s20) (hC : CtAll Try.prog T.fns (presQ pre) c20.sigs) (hk : CpAll Try.prog c20.cps) (hi : ∀ xs ls, allHas (parIvs s20.params) xs → pre 20 xs ls → allHas iv20 xs)
    (h : ∀ (v0 v1 v2 v3 v4 v5 v6 v7 v8 v9 v10 v11 v12 v13 v14 : Int), allHas iv20 [v0, v1, v2, v3, v4, v5, v6, v7, v8, v9, v10, v11, v12, v13, v14] → allL (parLvs s20.params) [] → pre 20 [v0, v1, v2, v3, v4, v5, v6, v7, v8, v9, v10, v11, v12, v13, v14] [] → p20 T I M pre (fun ys _ => ys = T.app 20 [v0, v1, v2, v3, v4, v5, v6, v7, v8, v9, v10, v11, v12, v13, v14] []) v0 v1 v2 v3 v4 v5 v6 v7 v8 v9 v10 v11 v12 v13 v14) : CT Try.prog T.fns (presQ pre) 20 s20 :=
  T.ctg (F := ⟨c20, []⟩) (fuel := 250) vc20 Try.checked.mixed hs ht hg hC hk Try.func20 I M (fun xs ls h1 h2 h3 => ⟨hi xs ls h1 h3, h2⟩) fun xs ls hx hl hp => by
    match xs, ls, hx, hl, hp with
    | [v0, v1, v2, v3, v4, v5, v6, v7, v8, v9, v10, v11, v12, v13, v14], [], hx, hl, hp => rw [q20]; exact h v0 v1 v2 v3 v4 v5 v6 v7 v8 v9 v10 v11 v12 v13 v14 hx hl hp
/-- loop.example/g01242/spec.l01Ok -/
def s65 : Sig := ⟨[.ptr [.b, .i .u32, .i .u32, .i .u32, .i .u32, .i .u32, .i .u32]], [(false, [.b])], true⟩
noncomputable def c65 : Cfg := ⟨Try.prog, [], [], [], []⟩
def iv65 : List Iv := [⟨0, 1⟩, ⟨0, 4294967295⟩, ⟨0, 4294967295⟩, ⟨0, 4294967295⟩, ⟨0, 4294967295⟩, ⟨0, 4294967295⟩, ⟨0, 4294967295⟩]
def t65 : VC :=
 (.ite (.eq (.var 0) (.lit 1))
  (.bind (.ite (.not (.and (.eq (.var 1) (.lit 0)) (.and (.eq (.var 2) (.lit 0)) (.and (.eq (.var 3) (.lit 0)) (.and (.eq (.var 4) (.lit 0)) (.and (.eq (.var 5) (.lit 0)) (.eq (.var 6) (.lit 0)))))))) (.lit 1) (.lit 0))
  (.fin (.e (.var 7) .nil)))
  (.fin (.e (.lit 1) .nil)))
theorem vc65 : vcOfI ⟨c65, []⟩ iv65 (parLvs s65.params) 250 Try.f65 s65 = t65 := by kernel_rfl
set_option linter.unusedVariables false in
def p65 (T : Tab) (I : Nat → Env → Env → Prop) (M : Nat → Env → Env → Nat) (pre : Nat → List Int → List (List Int) → Prop) (post : List Int → List (List Int) → Prop) (v0 v1 v2 v3 v4 v5 v6 : Int) : Prop :=
 ((decide ((v0 : Int) = 1) = true →
  ∀ v7 : Int, v7 = (if (!(decide ((v1 : Int) = 0) && (decide ((v2 : Int) = 0) && (decide ((v3 : Int) = 0) && (decide ((v4 : Int) = 0) && (decide ((v5 : Int) = 0) && decide ((v6 : Int) = 0))))))) = true then 1 else 0) →
  post [v7] []) ∧ (decide ((v0 : Int) = 1) = false →
  post [1] []))
theorem q65 (T : Tab) (I : Nat → Env → Env → Prop) (M : Nat → Env → Env → Nat) (pre : Nat → List Int → List (List Int) → Prop) (post : List Int → List (List Int) → Prop) (v0 v1 v2 v3 v4 v5 v6 : Int) : t65.plain T (presG pre I M) post ⟨[v0, v1, v2, v3, v4, v5, v6], []⟩ = p65 T I M pre post v0 v1 v2 v3 v4 v5 v6 := by kernel_rfl
theorem k65 (T : Tab) (I : Nat → Env → Env → Prop) (M : Nat → Env → Env → Nat) (pre : Nat → List Int → List (List Int) → Prop) (hs : SubSig T c65.sigs) (ht : TotG pre c65.sigs) (hg : T.sig 65 = some s65) (hC : CtAll Try.prog T.fns (presQ pre) c65.sigs) (hk : CpAll Try.prog c65.cps) (hi : ∀ xs ls, allHas (parIvs s65.params) xs → pre 65 xs ls → allHas iv65 xs)
    (h : ∀ (v0 v1 v2 v3 v4 v5 v6 : Int), allHas iv65 [v0, v1, v2, v3, v4, v5, v6] → allL (parLvs s65.params) [] → pre 65 [v0, v1, v2, v3, v4, v5, v6] [] → p65 T I M pre (fun ys _ => ys = T.app 65 [v0, v1, v2, v3, v4, v5, v6] []) v0 v1 v2 v3 v4 v5 v6) : CT Try.prog T.fns (presQ pre) 65 s65 :=
  T.ctg (F := ⟨c65, []⟩) (fuel := 250) vc65 Try.checked.mixed hs ht hg hC hk Try.func65 I M (fun xs ls h1 h2 h3 => ⟨hi xs ls h1 h3, h2⟩) fun xs ls hx hl hp => by
    match xs, ls, hx, hl, hp with
    | [v0, v1, v2, v3, v4, v5, v6], [], hx, hl, hp => rw [q65]; exact h v0 v1 v2 v3 v4 v5 v6 hx hl hp
/-- loop.example/g01242/spec.l01Cmp -/
def s77 : Sig := ⟨[.ptr [.i .u32, .i .u32, .i .u32, .i .u32, .i .u32, .i .u32], .ptr [.i .u32, .i .u32, .i .u32, .i .u32, .i .u32, .i .u32]], [(false, [.i .i64])], true⟩
noncomputable def c77 : Cfg := ⟨Try.prog, [], [], [], []⟩
def iv77 : List Iv := [⟨0, 4294967295⟩, ⟨0, 4294967295⟩, ⟨0, 4294967295⟩, ⟨0, 4294967295⟩, ⟨0, 4294967295⟩, ⟨0, 4294967295⟩, ⟨0, 4294967295⟩, ⟨0, 4294967295⟩, ⟨0, 4294967295⟩, ⟨0, 4294967295⟩, ⟨0, 4294967295⟩, ⟨0, 4294967295⟩]
def t77 : VC :=
 (.ite (.lt (.var 5) (.var 11))
  (.fin (.e (.lit (-1)) .nil))
  (.ite (.lt (.var 11) (.var 5))
   (.fin (.e (.lit 1) .nil))
   (.ite (.lt (.var 4) (.var 10))
    (.fin (.e (.lit (-1)) .nil))
    (.ite (.lt (.var 10) (.var 4))
     (.fin (.e (.lit 1) .nil))
     (.ite (.lt (.var 3) (.var 9))
      (.fin (.e (.lit (-1)) .nil))
      (.ite (.lt (.var 9) (.var 3))
       (.fin (.e (.lit 1) .nil))
       (.ite (.lt (.var 2) (.var 8))
        (.fin (.e (.lit (-1)) .nil))
        (.ite (.lt (.var 8) (.var 2))
         (.fin (.e (.lit 1) .nil))
         (.ite (.lt (.var 1) (.var 7))
          (.fin (.e (.lit (-1)) .nil))
          (.ite (.lt (.var 7) (.var 1))
           (.fin (.e (.lit 1) .nil))
           (.ite (.lt (.var 0) (.var 6))
            (.fin (.e (.lit (-1)) .nil))
            (.ite (.lt (.var 6) (.var 0))
             (.fin (.e (.lit 1) .nil))
             (.fin (.e (.lit 0) .nil))))))))))))))
theorem vc77 : vcOfI ⟨c77, []⟩ iv77 (parLvs s77.params) 250 Try.f77 s77 = t77 := by kernel_rfl
set_option linter.unusedVariables false in
def p77 (T : Tab) (I : Nat → Env → Env → Prop) (M : Nat → Env → Env → Nat) (pre : Nat → List Int → List (List Int) → Prop) (post : List Int → List (List Int) → Prop) (v0 v1 v2 v3 v4 v5 v6 v7 v8 v9 v10 v11 : Int) : Prop :=
 ((decide ((v5 : Int) < v11) = true →
  post [(-1)] []) ∧ (decide ((v5 : Int) < v11) = false →
  ((decide ((v11 : Int) < v5) = true →
   post [1] []) ∧ (decide ((v11 : Int) < v5) = false →
   ((decide ((v4 : Int) < v10) = true →
    post [(-1)] []) ∧ (decide ((v4 : Int) < v10) = false →
    ((decide ((v10 : Int) < v4) = true →
     post [1] []) ∧ (decide ((v10 : Int) < v4) = false →
     ((decide ((v3 : Int) < v9) = true →
      post [(-1)] []) ∧ (decide ((v3 : Int) < v9) = false →
      ((decide ((v9 : Int) < v3) = true →
       post [1] []) ∧ (decide ((v9 : Int) < v3) = false →
       ((decide ((v2 : Int) < v8) = true →
        post [(-1)] []) ∧ (decide ((v2 : Int) < v8) = false →
        ((decide ((v8 : Int) < v2) = true →
         post [1] []) ∧ (decide ((v8 : Int) < v2) = false →
         ((decide ((v1 : Int) < v7) = true →
          post [(-1)] []) ∧ (decide ((v1 : Int) < v7) = false →
          ((decide ((v7 : Int) < v1) = true →
           post [1] []) ∧ (decide ((v7 : Int) < v1) = false →
           ((decide ((v0 : Int) < v6) = true →
            post [(-1)] []) ∧ (decide ((v0 : Int) < v6) = false →
            ((decide ((v6 : Int) < v0) = true →
             post [1] []) ∧ (decide ((v6 : Int) < v0) = false →
             post [0] []))))))))))))))))))))))))
theorem q77 (T : Tab) (I : Nat → Env → Env → Prop) (M : Nat → Env → Env → Nat) (pre : Nat → List Int → List (List Int) → Prop) (post : List Int → List (List Int) → Prop) (v0 v1 v2 v3 v4 v5 v6 v7 v8 v9 v10 v11 : Int) : t77.plain T (presG pre I M) post ⟨[v0, v1, v2, v3, v4, v5, v6, v7, v8, v9, v10, v11], []⟩ = p77 T I M pre post v0 v1 v2 v3 v4 v5 v6 v7 v8 v9 v10 v11 := by kernel_rfl
theorem k77 (T : Tab) (I : Nat → Env → Env → Prop) (M : Nat → Env → Env → Nat) (pre : Nat → List Int → List (List Int) → Prop) (hs : SubSig T c77.sigs) (ht : TotG pre c77.sigs) (hg : T.sig 77 = some s77) (hC : CtAll Try.prog T.fns (presQ pre) c77.sigs) (hk : CpAll Try.prog c77.cps) (hi : ∀ xs ls, allHas (parIvs s77.params) xs → pre 77 xs ls → allHas iv77 xs)
    (h : ∀ (v0 v1 v2 v3 v4 v5 v6 v7 v8 v9 v10 v11 : Int), allHas iv77 [v0, v1, v2, v3, v4, v5, v6, v7, v8, v9, v10, v11] → allL (parLvs s77.params) [] → pre 77 [v0, v1, v2, v3, v4, v5, v6, v7, v8, v9, v10, v11] [] → p77 T I M pre (fun ys _ => ys = T.app 77 [v0, v1, v2, v3, v4, v5, v6, v7, v8, v9, v10, v11] []) v0 v1 v2 v3 v4 v5 v6 v7 v8 v9 v10 v11) : CT Try.prog T.fns (presQ pre) 77 s77 :=
  T.ctg (F := ⟨c77, []⟩) (fuel := 250) vc77 Try.checked.mixed hs ht hg hC hk Try.func77 I M (fun xs ls h1 h2 h3 => ⟨hi xs ls h1 h3, h2⟩) fun xs ls hx hl hp => by
    match xs, ls, hx, hl, hp with
    | [v0, v1, v2, v3, v4, v5, v6, v7, v8, v9, v10, v11], [], hx, hl, hp => rw [q77]; exact h v0 v1 v2 v3 v4 v5 v6 v7 v8 v9 v10 v11 hx hl hp
/-- loop.example/g01242/spec.l01Compare -/
def s66 : Sig := ⟨[.ptr [.b, .i .u32, .i .u32, .i .u32, .i .u32, .i .u32, .i .u32], .ptr [.b, .i .u32, .i .u32, .i .u32, .i .u32, .i .u32, .i .u32]], [(false, [.i .i64])], true⟩
noncomputable def c66 : Cfg := ⟨Try.prog, [(77, s77)], [], [], []⟩
def iv66 : List Iv := [⟨0, 1⟩, ⟨0, 4294967295⟩, ⟨0, 4294967295⟩, ⟨0, 4294967295⟩, ⟨0, 4294967295⟩, ⟨0, 4294967295⟩, ⟨0, 4294967295⟩, ⟨0, 1⟩, ⟨0, 4294967295⟩, ⟨0, 4294967295⟩, ⟨0, 4294967295⟩, ⟨0, 4294967295⟩, ⟨0, 4294967295⟩, ⟨0, 4294967295⟩]
def t66 : VC :=
 (.ite (.eq (.var 0) (.lit 1))
  (.ite (.not (.eq (.var 7) (.lit 1)))
   (.fin (.e (.lit (-1)) .nil))
   (.call 77 (.e (.var 8) (.e (.var 9) (.e (.var 10) (.e (.var 11) (.e (.var 12) (.e (.var 13) (.e (.var 1) (.e (.var 2) (.e (.var 3) (.e (.var 4) (.e (.var 5) (.e (.var 6) .nil)))))))))))) 1
   (.fin (.e (.var 14) .nil))))
  (.ite (.eq (.var 7) (.lit 1))
   (.fin (.e (.lit 1) .nil))
   (.call 77 (.e (.var 1) (.e (.var 2) (.e (.var 3) (.e (.var 4) (.e (.var 5) (.e (.var 6) (.e (.var 8) (.e (.var 9) (.e (.var 10) (.e (.var 11) (.e (.var 12) (.e (.var 13) .nil)))))))))))) 1
   (.fin (.e (.var 14) .nil)))))
theorem vc66 : vcOfI ⟨c66, []⟩ iv66 (parLvs s66.params) 250 Try.f66 s66 = t66 := by kernel_rfl
set_option linter.unusedVariables false in
def p66 (T : Tab) (I : Nat → Env → Env → Prop) (M : Nat → Env → Env → Nat) (pre : Nat → List Int → List (List Int) → Prop) (post : List Int → List (List Int) → Prop) (v0 v1 v2 v3 v4 v5 v6 v7 v8 v9 v10 v11 v12 v13 : Int) : Prop :=
 ((decide ((v0 : Int) = 1) = true →
  (((!decide ((v7 : Int) = 1)) = true →
   post [(-1)] []) ∧ ((!decide ((v7 : Int) = 1)) = false →
   ∀ v14 : Int, [v14] = T.out 77 1 [v8, v9, v10, v11, v12, v13, v1, v2, v3, v4, v5, v6] →
   post [v14] []))) ∧ (decide ((v0 : Int) = 1) = false →
  ((decide ((v7 : Int) = 1) = true →
   post [1] []) ∧ (decide ((v7 : Int) = 1) = false →
   ∀ v14 : Int, [v14] = T.out 77 1 [v1, v2, v3, v4, v5, v6, v8, v9, v10, v11, v12, v13] →
   post [v14] []))))
theorem q66 (T : Tab) (I : Nat → Env → Env → Prop) (M : Nat → Env → Env → Nat) (pre : Nat → List Int → List (List Int) → Prop) (post : List Int → List (List Int) → Prop) (v0 v1 v2 v3 v4 v5 v6 v7 v8 v9 v10 v11 v12 v13 : Int) : t66.plain T (presG pre I M) post ⟨[v0, v1, v2, v3, v4, v5, v6, v7, v8, v9, v10, v11, v12, v13], []⟩ = p66 T I M pre post v0 v1 v2 v3 v4 v5 v6 v7 v8 v9 v10 v11 v12 v13 := by kernel_rfl
theorem k66 (T : Tab) (I : Nat → Env → Env → Prop) (M : Nat → Env → Env → Nat) (pre : Nat → List Int → List (List Int) → Prop) (hs : SubSig T c66.sigs) (ht : TotG pre c66.sigs) (hg : T.sig 66 = some s66) (hC : CtAll Try.prog T.fns (presQ pre) c66.sigs) (hk : CpAll Try.prog c66.cps) (hi : ∀ xs ls, allHas (parIvs s66.params) xs → pre 66 xs ls → allHas iv66 xs)
    (h : ∀ (v0 v1 v2 v3 v4 v5 v6 v7 v8 v9 v10 v11 v12 v13 : Int), allHas iv66 [v0, v1, v2, v3, v4, v5, v6, v7, v8, v9, v10, v11, v12, v13] → allL (parLvs s66.params) [] → pre 66 [v0, v1, v2, v3, v4, v5, v6, v7, v8, v9, v10, v11, v12, v13] [] → p66 T I M pre (fun ys _ => ys = T.app 66 [v0, v1, v2, v3, v4, v5, v6, v7, v8, v9, v10, v11, v12, v13] []) v0 v1 v2 v3 v4 v5 v6 v7 v8 v9 v10 v11 v12 v13) : CT Try.prog T.fns (presQ pre) 66 s66 :=
  T.ctg (F := ⟨c66, []⟩) (fuel := 250) vc66 Try.checked.mixed hs ht hg hC hk Try.func66 I M (fun xs ls h1 h2 h3 => ⟨hi xs ls h1 h3, h2⟩) fun xs ls hx hl hp => by
    match xs, ls, hx, hl, hp with
    | [v0, v1, v2, v3, v4, v5, v6, v7, v8, v9, v10, v11, v12, v13], [], hx, hl, hp => rw [q66]; exact h v0 v1 v2 v3 v4 v5 v6 v7 v8 v9 v10 v11 v12 v13 hx hl hp
/-- loop.example/g01242/spec.l02Places -/
def s67 : Sig := ⟨[.val false [.i .i64]], [(false, [.b])], true⟩
noncomputable def c67 : Cfg := ⟨Try.prog, [(62, s62)], [], [], []⟩
def iv67 : List Iv := [⟨(-9223372036854775808), 9223372036854775807⟩]
def t67 : VC :=
 (.call 62 (.e (.var 0) (.e (.lit 0) (.e (.lit 64) .nil))) 1
 (.fin (.e (.var 1) .nil)))
theorem vc67 : vcOfI ⟨c67, []⟩ iv67 (parLvs s67.params) 250 Try.f67 s67 = t67 := by kernel_rfl
set_option linter.unusedVariables false in
def p67 (T : Tab) (I : Nat → Env → Env → Prop) (M : Nat → Env → Env → Nat) (pre : Nat → List Int → List (List Int) → Prop) (post : List Int → List (List Int) → Prop) (v0 : Int) : Prop :=
 ∀ v1 : Int, [v1] = T.out 62 1 [v0, 0, 64] →
 post [v1] []
theorem q67 (T : Tab) (I : Nat → Env → Env → Prop) (M : Nat → Env → Env → Nat) (pre : Nat → List Int → List (List Int) → Prop) (post : List Int → List (List Int) → Prop) (v0 : Int) : t67.plain T (presG pre I M) post ⟨[v0], []⟩ = p67 T I M pre post v0 := by kernel_rfl
theorem k67 (T : Tab) (I : Nat → Env → Env → Prop) (M : Nat → Env → Env → Nat) (pre : Nat → List Int → List (List Int) → Prop) (hs : SubSig T c67.sigs) (ht : TotG pre c67.sigs) (hg : T.sig 67 = some s67) (hC : CtAll Try.prog T.fns (presQ pre) c67.sigs) (hk : CpAll Try.prog c67.cps) (hi : ∀ xs ls, allHas (parIvs s67.params) xs → pre 67 xs ls → allHas iv67 xs)
    (h : ∀ (v0 : Int), allHas iv67 [v0] → allL (parLvs s67.params) [] → pre 67 [v0] [] → p67 T I M pre (fun ys _ => ys = T.app 67 [v0] []) v0) : CT Try.prog T.fns (presQ pre) 67 s67 :=
  T.ctg (F := ⟨c67, []⟩) (fuel := 250) vc67 Try.checked.mixed hs ht hg hC hk Try.func67 I M (fun xs ls h1 h2 h3 => ⟨hi xs ls h1 h3, h2⟩) fun xs ls hx hl hp => by
    match xs, ls, hx, hl, hp with
    | [v0], [], hx, hl, hp => rw [q67]; exact h v0 hx hl hp
/-- loop.example/g01242/spec.l05Part -/
def s46 : Sig := ⟨[.ptr [.b, .i .u32, .i .u32, .i .u32, .i .u32, .i .u32, .i .u32, .b, .i .u32, .i .u32, .i .u32, .i .u32, .i .u32, .i .u32, .i .i64]], [(false, [.b])], true⟩
noncomputable def c46 : Cfg := ⟨Try.prog, [(65, s65), (66, s66), (67, s67)], [], [], []⟩
def iv46 : List Iv := [⟨0, 1⟩, ⟨0, 4294967295⟩, ⟨0, 4294967295⟩, ⟨0, 4294967295⟩, ⟨0, 4294967295⟩, ⟨0, 4294967295⟩, ⟨0, 4294967295⟩, ⟨0, 1⟩, ⟨0, 4294967295⟩, ⟨0, 4294967295⟩, ⟨0, 4294967295⟩, ⟨0, 4294967295⟩, ⟨0, 4294967295⟩, ⟨0, 4294967295⟩, ⟨(-9223372036854775808), 9223372036854775807⟩]
def t46 : VC :=
 (.ite (.eq (.app 65 0 (.e (.var 0) (.e (.var 1) (.e (.var 2) (.e (.var 3) (.e (.var 4) (.e (.var 5) (.e (.var 6) .nil)))))))) (.lit 1))
  (.ite (.eq (.app 65 0 (.e (.var 7) (.e (.var 8) (.e (.var 9) (.e (.var 10) (.e (.var 11) (.e (.var 12) (.e (.var 13) .nil)))))))) (.lit 1))
   (.ite (.lt (.app 66 0 (.e (.var 0) (.e (.var 1) (.e (.var 2) (.e (.var 3) (.e (.var 4) (.e (.var 5) (.e (.var 6) (.e (.var 7) (.e (.var 8) (.e (.var 9) (.e (.var 10) (.e (.var 11) (.e (.var 12) (.e (.var 13) .nil))))))))))))))) (.lit 0))
    (.call 65 (.e (.var 0) (.e (.var 1) (.e (.var 2) (.e (.var 3) (.e (.var 4) (.e (.var 5) (.e (.var 6) .nil))))))) 1
    (.call 65 (.e (.var 7) (.e (.var 8) (.e (.var 9) (.e (.var 10) (.e (.var 11) (.e (.var 12) (.e (.var 13) .nil))))))) 1
    (.call 66 (.e (.var 0) (.e (.var 1) (.e (.var 2) (.e (.var 3) (.e (.var 4) (.e (.var 5) (.e (.var 6) (.e (.var 7) (.e (.var 8) (.e (.var 9) (.e (.var 10) (.e (.var 11) (.e (.var 12) (.e (.var 13) .nil)))))))))))))) 1
    (.call 67 (.e (.var 14) .nil) 1
    (.fin (.e (.var 18) .nil))))))
    (.call 65 (.e (.var 0) (.e (.var 1) (.e (.var 2) (.e (.var 3) (.e (.var 4) (.e (.var 5) (.e (.var 6) .nil))))))) 1
    (.call 65 (.e (.var 7) (.e (.var 8) (.e (.var 9) (.e (.var 10) (.e (.var 11) (.e (.var 12) (.e (.var 13) .nil))))))) 1
    (.call 66 (.e (.var 0) (.e (.var 1) (.e (.var 2) (.e (.var 3) (.e (.var 4) (.e (.var 5) (.e (.var 6) (.e (.var 7) (.e (.var 8) (.e (.var 9) (.e (.var 10) (.e (.var 11) (.e (.var 12) (.e (.var 13) .nil)))))))))))))) 1
    (.fin (.e (.lit 0) .nil))))))
   (.call 65 (.e (.var 0) (.e (.var 1) (.e (.var 2) (.e (.var 3) (.e (.var 4) (.e (.var 5) (.e (.var 6) .nil))))))) 1
   (.call 65 (.e (.var 7) (.e (.var 8) (.e (.var 9) (.e (.var 10) (.e (.var 11) (.e (.var 12) (.e (.var 13) .nil))))))) 1
   (.fin (.e (.lit 0) .nil)))))
  (.call 65 (.e (.var 0) (.e (.var 1) (.e (.var 2) (.e (.var 3) (.e (.var 4) (.e (.var 5) (.e (.var 6) .nil))))))) 1
  (.fin (.e (.lit 0) .nil))))
theorem vc46 : vcOfI ⟨c46, []⟩ iv46 (parLvs s46.params) 250 Try.f46 s46 = t46 := by kernel_rfl
set_option linter.unusedVariables false in
def p46 (T : Tab) (I : Nat → Env → Env → Prop) (M : Nat → Env → Env → Nat) (pre : Nat → List Int → List (List Int) → Prop) (post : List Int → List (List Int) → Prop) (v0 v1 v2 v3 v4 v5 v6 v7 v8 v9 v10 v11 v12 v13 v14 : Int) : Prop :=
 ((decide (((List.getD (T.fns 65 [v0, v1, v2, v3, v4, v5, v6] []).1 0 0) : Int) = 1) = true →
  ((decide (((List.getD (T.fns 65 [v7, v8, v9, v10, v11, v12, v13] []).1 0 0) : Int) = 1) = true →
   ((decide (((List.getD (T.fns 66 [v0, v1, v2, v3, v4, v5, v6, v7, v8, v9, v10, v11, v12, v13] []).1 0 0) : Int) < 0) = true →
    ∀ v15 : Int, [v15] = T.out 65 1 [v0, v1, v2, v3, v4, v5, v6] →
    ∀ v16 : Int, [v16] = T.out 65 1 [v7, v8, v9, v10, v11, v12, v13] →
    ∀ v17 : Int, [v17] = T.out 66 1 [v0, v1, v2, v3, v4, v5, v6, v7, v8, v9, v10, v11, v12, v13] →
    ∀ v18 : Int, [v18] = T.out 67 1 [v14] →
    post [v18] []) ∧ (decide (((List.getD (T.fns 66 [v0, v1, v2, v3, v4, v5, v6, v7, v8, v9, v10, v11, v12, v13] []).1 0 0) : Int) < 0) = false →
    ∀ v15 : Int, [v15] = T.out 65 1 [v0, v1, v2, v3, v4, v5, v6] →
    ∀ v16 : Int, [v16] = T.out 65 1 [v7, v8, v9, v10, v11, v12, v13] →
    ∀ v17 : Int, [v17] = T.out 66 1 [v0, v1, v2, v3, v4, v5, v6, v7, v8, v9, v10, v11, v12, v13] →
    post [0] []))) ∧ (decide (((List.getD (T.fns 65 [v7, v8, v9, v10, v11, v12, v13] []).1 0 0) : Int) = 1) = false →
   ∀ v15 : Int, [v15] = T.out 65 1 [v0, v1, v2, v3, v4, v5, v6] →
   ∀ v16 : Int, [v16] = T.out 65 1 [v7, v8, v9, v10, v11, v12, v13] →
   post [0] []))) ∧ (decide (((List.getD (T.fns 65 [v0, v1, v2, v3, v4, v5, v6] []).1 0 0) : Int) = 1) = false →
  ∀ v15 : Int, [v15] = T.out 65 1 [v0, v1, v2, v3, v4, v5, v6] →
  post [0] []))
theorem q46 (T : Tab) (I : Nat → Env → Env → Prop) (M : Nat → Env → Env → Nat) (pre : Nat → List Int → List (List Int) → Prop) (post : List Int → List (List Int) → Prop) (v0 v1 v2 v3 v4 v5 v6 v7 v8 v9 v10 v11 v12 v13 v14 : Int) : t46.plain T (presG pre I M) post ⟨[v0, v1, v2, v3, v4, v5, v6, v7, v8, v9, v10, v11, v12, v13, v14], []⟩ = p46 T I M pre post v0 v1 v2 v3 v4 v5 v6 v7 v8 v9 v10 v11 v12 v13 v14 := by kernel_rfl
theorem k46 (T : Tab) (I : Nat → Env → Env → Prop) (M : Nat → Env → Env → Nat) (pre : Nat → List Int → List (List Int) → Prop) (hs : SubSig T c46.sigs) (ht : TotG pre c46.sigs) (hg : T.sig 46 = some s46) (hC : CtAll Try.prog T.fns (presQ pre) c46.sigs) (hk : CpAll Try.prog c46.cps) (hi : ∀ xs ls, allHas (parIvs s46.params) xs → pre 46 xs ls → allHas iv46 xs)
    (h : ∀ (v0 v1 v2 v3 v4 v5 v6 v7 v8 v9 v10 v11 v12 v13 v14 : Int), allHas iv46 [v0, v1, v2, v3, v4, v5, v6, v7, v8, v9, v10, v11, v12, v13, v14] → allL (parLvs s46.params) [] → pre 46 [v0, v1, v2, v3, v4, v5, v6, v7, v8, v9, v10, v11, v12, v13, v14] [] → p46 T I M pre (fun ys _ => ys = T.app 46 [v0, v1, v2, v3, v4, v5, v6, v7, v8, v9, v10, v11, v12, v13, v14] []) v0 v1 v2 v3 v4 v5 v6 v7 v8 v9 v10 v11 v12 v13 v14) : CT Try.prog T.fns (presQ pre) 46 s46 :=
  T.ctg (F := ⟨c46, []⟩) (fuel := 250) vc46 Try.checked.mixed hs ht hg hC hk Try.func46 I M (fun xs ls h1 h2 h3 => ⟨hi xs ls h1 h3, h2⟩) fun xs ls hx hl hp => by
    match xs, ls, hx, hl, hp with
    | [v0, v1, v2, v3, v4, v5, v6, v7, v8, v9, v10, v11, v12, v13, v14], [], hx, hl, hp => rw [q46]; exact h v0 v1 v2 v3 v4 v5 v6 v7 v8 v9 v10 v11 v12 v13 v14 hx hl hp
/-- loop.example/g01242/spec.ValidPart -/
def s19 : Sig := ⟨[.val true [.b, .i .u32, .i .u32, .i .u32, .i .u32, .i .u32, .i .u32, .b, .i .u32, .i .u32, .i .u32, .i .u32, .i .u32, .i .u32, .i .i64]], [(false, [.b])], true⟩
noncomputable def c19 : Cfg := ⟨Try.prog, [(46, s46)], [], [], []⟩
def iv19 : List Iv := [⟨0, 1⟩, ⟨0, 4294967295⟩, ⟨0, 4294967295⟩, ⟨0, 4294967295⟩, ⟨0, 4294967295⟩, ⟨0, 4294967295⟩, ⟨0, 4294967295⟩, ⟨0, 1⟩, ⟨0, 4294967295⟩, ⟨0, 4294967295⟩, ⟨0, 4294967295⟩, ⟨0, 4294967295⟩, ⟨0, 4294967295⟩, ⟨0, 4294967295⟩, ⟨(-9223372036854775808), 9223372036854775807⟩]
def t19 : VC :=
 (.call 46 (.e (.var 0) (.e (.var 1) (.e (.var 2) (.e (.var 3) (.e (.var 4) (.e (.var 5) (.e (.var 6) (.e (.var 7) (.e (.var 8) (.e (.var 9) (.e (.var 10) (.e (.var 11) (.e (.var 12) (.e (.var 13) (.e (.var 14) .nil))))))))))))))) 1
 (.fin (.e (.var 15) .nil)))
theorem vc19 : vcOfI ⟨c19, []⟩ iv19 (parLvs s19.params) 250 Try.f19 s19 = t19 := by kernel_rfl
set_option linter.unusedVariables false in
def p19 (T : Tab) (I : Nat → Env → Env → Prop) (M : Nat → Env → Env → Nat) (pre : Nat → List Int → List (List Int) → Prop) (post : List Int → List (List Int) → Prop) (v0 v1 v2 v3 v4 v5 v6 v7 v8 v9 v10 v11 v12 v13 v14 : Int) : Prop :=
 ∀ v15 : Int, [v15] = T.out 46 1 [v0, v1, v2, v3, v4, v5, v6, v7, v8, v9, v10, v11, v12, v13, v14] →
 post [v15] []
theorem q19 (T : Tab) (I : Nat → Env → Env → Prop) (M : Nat → Env → Env → Nat) (pre : Nat → List Int → List (List Int) → Prop) (post : List Int → List (List Int) → Prop) (v0 v1 v2 v3 v4 v5 v6 v7 v8 v9 v10 v11 v12 v13 v14 : Int) : t19.plain T (presG pre I M) post ⟨[v0, v1, v2, v3, v4, v5, v6, v7, v8, v9, v10, v11, v12, v13, v14], []⟩ = p19 T I M pre post v0 v1 v2 v3 v4 v5 v6 v7 v8 v9 v10 v11 v12 v13 v14 := by kernel_rfl
theorem k19 (T : Tab) (I : Nat → Env → Env → Prop) (M : Nat → Env → Env → Nat) (pre : Nat → List Int → List (List Int) → Prop) (hs : SubSig T c19.sigs) (ht : TotG pre c19.sigs) (hg : T.sig 19 = some s19) (hC : CtAll Try.prog T.fns (presQ pre) c19.sigs) (hk : CpAll Try.prog c19.cps) (hi : ∀ xs ls, allHas (parIvs s19.params) xs → pre 19 xs ls → allHas iv19 xs)
    (h : ∀ (v0 v1 v2 v3 v4 v5 v6 v7 v8 v9 v10 v11 v12 v13 v14 : Int), allHas iv19 [v0, v1, v2, v3, v4, v5, v6, v7, v8, v9, v10, v11, v12, v13, v14] → allL (parLvs s19.params) [] → pre 19 [v0, v1, v2, v3, v4, v5, v6, v7, v8, v9, v10, v11, v12, v13, v14] [] → p19 T I M pre (fun ys _ => ys = T.app 19 [v0, v1, v2, v3, v4, v5, v6, v7, v8, v9, v10, v11, v12, v13, v14] []) v0 v1 v2 v3 v4 v5 v6 v7 v8 v9 v10 v11 v12 v13 v14) : CT Try.prog T.fns (presQ pre) 19 s19 :=
  T.ctg (F := ⟨c19, []⟩) (fuel := 250) vc19 Try.checked.mixed hs ht hg hC hk Try.func19 I M (fun xs ls h1 h2 h3 => ⟨hi xs ls h1 h3, h2⟩) fun xs ls hx hl hp => by
    match xs, ls, hx, hl, hp with
    | [v0, v1, v2, v3, v4, v5, v6, v7, v8, v9, v10, v11, v12, v13, v14], [], hx, hl, hp => rw [q19]; exact h v0 v1 v2 v3 v4 v5 v6 v7 v8 v9 v10 v11 v12 v13 v14 hx hl hp
/-- loop.example/g01242/impl.ValidWide -/
def s48 : Sig := ⟨[.val true [.b, .i .u32, .i .u32, .i .u32, .i .u32, .i .u32, .i .u32]], [(false, [.b])], true⟩
noncomputable def c48 : Cfg := ⟨Try.prog, [], [], [], []⟩
def iv48 : List Iv := [⟨0, 1⟩, ⟨0, 4294967295⟩, ⟨0, 4294967295⟩, ⟨0, 4294967295⟩, ⟨0, 4294967295⟩, ⟨0, 4294967295⟩, ⟨0, 4294967295⟩]
def t48 : VC :=
 (.ite (.eq (.var 0) (.lit 1))
  (.bind (.ite (.not (.and (.eq (.var 1) (.lit 0)) (.and (.eq (.var 2) (.lit 0)) (.and (.eq (.var 3) (.lit 0)) (.and (.eq (.var 4) (.lit 0)) (.and (.eq (.var 5) (.lit 0)) (.eq (.var 6) (.lit 0)))))))) (.lit 1) (.lit 0))
  (.fin (.e (.var 7) .nil)))
  (.fin (.e (.lit 1) .nil)))
theorem vc48 : vcOfI ⟨c48, []⟩ iv48 (parLvs s48.params) 250 Try.f48 s48 = t48 := by kernel_rfl
set_option linter.unusedVariables false in
def p48 (T : Tab) (I : Nat → Env → Env → Prop) (M : Nat → Env → Env → Nat) (pre : Nat → List Int → List (List Int) → Prop) (post : List Int → List (List Int) → Prop) (v0 v1 v2 v3 v4 v5 v6 : Int) : Prop :=
 ((decide ((v0 : Int) = 1) = true →
  ∀ v7 : Int, v7 = (if (!(decide ((v1 : Int) = 0) && (decide ((v2 : Int) = 0) && (decide ((v3 : Int) = 0) && (decide ((v4 : Int) = 0) && (decide ((v5 : Int) = 0) && decide ((v6 : Int) = 0))))))) = true then 1 else 0) →
  post [v7] []) ∧ (decide ((v0 : Int) = 1) = false →
  post [1] []))
theorem q48 (T : Tab) (I : Nat → Env → Env → Prop) (M : Nat → Env → Env → Nat) (pre : Nat → List Int → List (List Int) → Prop) (post : List Int → List (List Int) → Prop) (v0 v1 v2 v3 v4 v5 v6 : Int) : t48.plain T (presG pre I M) post ⟨[v0, v1, v2, v3, v4, v5, v6], []⟩ = p48 T I M pre post v0 v1 v2 v3 v4 v5 v6 := by kernel_rfl
theorem k48 (T : Tab) (I : Nat → Env → Env → Prop) (M : Nat → Env → Env → Nat) (pre : Nat → List Int → List (List Int) → Prop) (hs : SubSig T c48.sigs) (ht : TotG pre c48.sigs) (hg : T.sig 48 = some s48) (hC : CtAll Try.prog T.fns (presQ pre) c48.sigs) (hk : CpAll Try.prog c48.cps) (hi : ∀ xs ls, allHas (parIvs s48.params) xs → pre 48 xs ls → allHas iv48 xs)
    (h : ∀ (v0 v1 v2 v3 v4 v5 v6 : Int), allHas iv48 [v0, v1, v2, v3, v4, v5, v6] → allL (parLvs s48.params) [] → pre 48 [v0, v1, v2, v3, v4, v5, v6] [] → p48 T I M pre (fun ys _ => ys = T.app 48 [v0, v1, v2, v3, v4, v5, v6] []) v0 v1 v2 v3 v4 v5 v6) : CT Try.prog T.fns (presQ pre) 48 s48 :=
  T.ctg (F := ⟨c48, []⟩) (fuel := 250) vc48 Try.checked.mixed hs ht hg hC hk Try.func48 I M (fun xs ls h1 h2 h3 => ⟨hi xs ls h1 h3, h2⟩) fun xs ls hx hl hp => by
    match xs, ls, hx, hl, hp with
    | [v0, v1, v2, v3, v4, v5, v6], [], hx, hl, hp => rw [q48]; exact h v0 v1 v2 v3 v4 v5 v6 hx hl hp
/-- (loop.example/g01242/impl.limbs).compare -/
def s78 : Sig := ⟨[.val true [.i .u32, .i .u32, .i .u32, .i .u32, .i .u32, .i .u32], .val true [.i .u32, .i .u32, .i .u32, .i .u32, .i .u32, .i .u32]], [(false, [.i .i64])], true⟩
noncomputable def c78 : Cfg := ⟨Try.prog, [], [], [], []⟩
def iv78 : List Iv := [⟨0, 4294967295⟩, ⟨0, 4294967295⟩, ⟨0, 4294967295⟩, ⟨0, 4294967295⟩, ⟨0, 4294967295⟩, ⟨0, 4294967295⟩, ⟨0, 4294967295⟩, ⟨0, 4294967295⟩, ⟨0, 4294967295⟩, ⟨0, 4294967295⟩, ⟨0, 4294967295⟩, ⟨0, 4294967295⟩]
def t78 : VC :=
 (.ite (.and (.eq (.var 0) (.var 6)) (.and (.eq (.var 1) (.var 7)) (.and (.eq (.var 2) (.var 8)) (.and (.eq (.var 3) (.var 9)) (.and (.eq (.var 4) (.var 10)) (.eq (.var 5) (.var 11)))))))
  (.fin (.e (.lit 0) .nil))
  (.ite (.eq (.var 5) (.var 11))
   (.ite (.eq (.var 4) (.var 10))
    (.ite (.eq (.var 3) (.var 9))
     (.ite (.eq (.var 2) (.var 8))
      (.ite (.eq (.var 1) (.var 7))
       (.ite (.eq (.var 0) (.var 6))
        (.fail 16)
        (.ite (.lt (.var 0) (.var 6))
         (.fin (.e (.lit (-1)) .nil))
         (.fin (.e (.lit 1) .nil))))
       (.ite (.lt (.var 1) (.var 7))
        (.fin (.e (.lit (-1)) .nil))
        (.fin (.e (.lit 1) .nil))))
      (.ite (.lt (.var 2) (.var 8))
       (.fin (.e (.lit (-1)) .nil))
       (.fin (.e (.lit 1) .nil))))
     (.ite (.lt (.var 3) (.var 9))
      (.fin (.e (.lit (-1)) .nil))
      (.fin (.e (.lit 1) .nil))))
    (.ite (.lt (.var 4) (.var 10))
     (.fin (.e (.lit (-1)) .nil))
     (.fin (.e (.lit 1) .nil))))
   (.ite (.lt (.var 5) (.var 11))
    (.fin (.e (.lit (-1)) .nil))
    (.fin (.e (.lit 1) .nil)))))
theorem vc78 : vcOfI ⟨c78, []⟩ iv78 (parLvs s78.params) 250 Try.f78 s78 = t78 := by kernel_rfl
set_option linter.unusedVariables false in
def p78 (T : Tab) (I : Nat → Env → Env → Prop) (M : Nat → Env → Env → Nat) (pre : Nat → List Int → List (List Int) → Prop) (post : List Int → List (List Int) → Prop) (v0 v1 v2 v3 v4 v5 v6 v7 v8 v9 v10 v11 : Int) : Prop :=
 (((decide ((v0 : Int) = v6) && (decide ((v1 : Int) = v7) && (decide ((v2 : Int) = v8) && (decide ((v3 : Int) = v9) && (decide ((v4 : Int) = v10) && decide ((v5 : Int) = v11)))))) = true →
  post [0] []) ∧ ((decide ((v0 : Int) = v6) && (decide ((v1 : Int) = v7) && (decide ((v2 : Int) = v8) && (decide ((v3 : Int) = v9) && (decide ((v4 : Int) = v10) && decide ((v5 : Int) = v11)))))) = false →
  ((decide ((v5 : Int) = v11) = true →
   ((decide ((v4 : Int) = v10) = true →
    ((decide ((v3 : Int) = v9) = true →
     ((decide ((v2 : Int) = v8) = true →
      ((decide ((v1 : Int) = v7) = true →
       ((decide ((v0 : Int) = v6) = true →
        False) ∧ (decide ((v0 : Int) = v6) = false →
        ((decide ((v0 : Int) < v6) = true →
         post [(-1)] []) ∧ (decide ((v0 : Int) < v6) = false →
         post [1] []))))) ∧ (decide ((v1 : Int) = v7) = false →
       ((decide ((v1 : Int) < v7) = true →
        post [(-1)] []) ∧ (decide ((v1 : Int) < v7) = false →
        post [1] []))))) ∧ (decide ((v2 : Int) = v8) = false →
      ((decide ((v2 : Int) < v8) = true →
       post [(-1)] []) ∧ (decide ((v2 : Int) < v8) = false →
       post [1] []))))) ∧ (decide ((v3 : Int) = v9) = false →
     ((decide ((v3 : Int) < v9) = true →
      post [(-1)] []) ∧ (decide ((v3 : Int) < v9) = false →
      post [1] []))))) ∧ (decide ((v4 : Int) = v10) = false →
    ((decide ((v4 : Int) < v10) = true →
     post [(-1)] []) ∧ (decide ((v4 : Int) < v10) = false →
     post [1] []))))) ∧ (decide ((v5 : Int) = v11) = false →
   ((decide ((v5 : Int) < v11) = true →
    post [(-1)] []) ∧ (decide ((v5 : Int) < v11) = false →
    post [1] []))))))
theorem q78 (T : Tab) (I : Nat → Env → Env → Prop) (M : Nat → Env → Env → Nat) (pre : Nat → List Int → List (List Int) → Prop) (post : List Int → List (List Int) → Prop) (v0 v1 v2 v3 v4 v5 v6 v7 v8 v9 v10 v11 : Int) : t78.plain T (presG pre I M) post ⟨[v0, v1, v2, v3, v4, v5, v6, v7, v8, v9, v10, v11], []⟩ = p78 T I M pre post v0 v1 v2 v3 v4 v5 v6 v7 v8 v9 v10 v11 := by kernel_rfl
theorem k78 (T : Tab) (I : Nat → Env → Env → Prop) (M : Nat → Env → Env → Nat) (pre : Nat → List Int → List (List Int) → Prop) (hs : SubSig T c78.sigs) (ht : TotG pre c78.sigs) (hg : T.sig 78 = some s78) (hC : CtAll Try.prog T.fns (presQ pre) c78.sigs) (hk : CpAll Try.prog c78.cps) (hi : ∀ xs ls, allHas (parIvs s78.params) xs → pre 78 xs ls → allHas iv78 xs)
    (h : ∀ (v0 v1 v2 v3 v4 v5 v6 v7 v8 v9 v10 v11 : Int), allHas iv78 [v0, v1, v2, v3, v4, v5, v6, v7, v8, v9, v10, v11] → allL (parLvs s78.params) [] → pre 78 [v0, v1, v2, v3, v4, v5, v6, v7, v8, v9, v10, v11] [] → p78 T I M pre (fun ys _ => ys = T.app 78 [v0, v1, v2, v3, v4, v5, v6, v7, v8, v9, v10, v11] []) v0 v1 v2 v3 v4 v5 v6 v7 v8 v9 v10 v11) : CT Try.prog T.fns (presQ pre) 78 s78 :=
  T.ctg (F := ⟨c78, []⟩) (fuel := 250) vc78 Try.checked.mixed hs ht hg hC hk Try.func78 I M (fun xs ls h1 h2 h3 => ⟨hi xs ls h1 h3, h2⟩) fun xs ls hx hl hp => by
    match xs, ls, hx, hl, hp with
    | [v0, v1, v2, v3, v4, v5, v6, v7, v8, v9, v10, v11], [], hx, hl, hp => rw [q78]; exact h v0 v1 v2 v3 v4 v5 v6 v7 v8 v9 v10 v11 hx hl hp
/-- loop.example/g01242/impl.CompareWides -/
def s69 : Sig := ⟨[.val true [.b, .i .u32, .i .u32, .i .u32, .i .u32, .i .u32, .i .u32], .val true [.b, .i .u32, .i .u32, .i .u32, .i .u32, .i .u32, .i .u32]], [(false, [.i .i64]), (false, [.i .i64])], true⟩
noncomputable def c69 : Cfg := ⟨Try.prog, [(48, s48), (78, s78)], [], [], []⟩
def iv69 : List Iv := [⟨0, 1⟩, ⟨0, 4294967295⟩, ⟨0, 4294967295⟩, ⟨0, 4294967295⟩, ⟨0, 4294967295⟩, ⟨0, 4294967295⟩, ⟨0, 4294967295⟩, ⟨0, 1⟩, ⟨0, 4294967295⟩, ⟨0, 4294967295⟩, ⟨0, 4294967295⟩, ⟨0, 4294967295⟩, ⟨0, 4294967295⟩, ⟨0, 4294967295⟩]
def t69 : VC :=
 (.call 48 (.e (.var 0) (.e (.var 1) (.e (.var 2) (.e (.var 3) (.e (.var 4) (.e (.var 5) (.e (.var 6) .nil))))))) 1
 (.ite (.eq (.var 14) (.lit 1))
  (.call 48 (.e (.var 7) (.e (.var 8) (.e (.var 9) (.e (.var 10) (.e (.var 11) (.e (.var 12) (.e (.var 13) .nil))))))) 1
  (.ite (.not (.eq (.var 15) (.lit 1)))
   (.fin (.e (.lit 0) (.e (.lit 1) .nil)))
   (.ite (.not (.beq (.eq (.var 0) (.lit 1)) (.eq (.var 7) (.lit 1))))
    (.ite (.eq (.var 0) (.lit 1))
     (.fin (.e (.lit (-1)) (.e (.lit 0) .nil)))
     (.fin (.e (.lit 1) (.e (.lit 0) .nil))))
    (.call 78 (.e (.var 1) (.e (.var 2) (.e (.var 3) (.e (.var 4) (.e (.var 5) (.e (.var 6) (.e (.var 8) (.e (.var 9) (.e (.var 10) (.e (.var 11) (.e (.var 12) (.e (.var 13) .nil)))))))))))) 1
    (.ite (.eq (.var 0) (.lit 1))
     (.bind (.wrap .i64 (.sub (.lit 0) (.var 16)))
     (.fin (.e (.var 17) (.e (.lit 0) .nil))))
     (.fin (.e (.var 16) (.e (.lit 0) .nil))))))))
  (.fin (.e (.lit 0) (.e (.lit 1) .nil)))))
theorem vc69 : vcOfI ⟨c69, []⟩ iv69 (parLvs s69.params) 250 Try.f69 s69 = t69 := by kernel_rfl
set_option linter.unusedVariables false in
def p69 (T : Tab) (I : Nat → Env → Env → Prop) (M : Nat → Env → Env → Nat) (pre : Nat → List Int → List (List Int) → Prop) (post : List Int → List (List Int) → Prop) (v0 v1 v2 v3 v4 v5 v6 v7 v8 v9 v10 v11 v12 v13 : Int) : Prop :=
 ∀ v14 : Int, [v14] = T.out 48 1 [v0, v1, v2, v3, v4, v5, v6] →
 ((decide ((v14 : Int) = 1) = true →
  ∀ v15 : Int, [v15] = T.out 48 1 [v7, v8, v9, v10, v11, v12, v13] →
  (((!decide ((v15 : Int) = 1)) = true →
   post [0, 1] []) ∧ ((!decide ((v15 : Int) = 1)) = false →
   (((!(decide ((v0 : Int) = 1) == decide ((v7 : Int) = 1))) = true →
    ((decide ((v0 : Int) = 1) = true →
     post [(-1), 0] []) ∧ (decide ((v0 : Int) = 1) = false →
     post [1, 0] []))) ∧ ((!(decide ((v0 : Int) = 1) == decide ((v7 : Int) = 1))) = false →
    ∀ v16 : Int, [v16] = T.out 78 1 [v1, v2, v3, v4, v5, v6, v8, v9, v10, v11, v12, v13] →
    ((decide ((v0 : Int) = 1) = true →
     ∀ v17 : Int, v17 = (IntKind.wrap .i64 (0 - v16)) →
     post [v17, 0] []) ∧ (decide ((v0 : Int) = 1) = false →
     post [v16, 0] []))))))) ∧ (decide ((v14 : Int) = 1) = false →
  post [0, 1] []))
theorem q69 (T : Tab) (I : Nat → Env → Env → Prop) (M : Nat → Env → Env → Nat) (pre : Nat → List Int → List (List Int) → Prop) (post : List Int → List (List Int) → Prop) (v0 v1 v2 v3 v4 v5 v6 v7 v8 v9 v10 v11 v12 v13 : Int) : t69.plain T (presG pre I M) post ⟨[v0, v1, v2, v3, v4, v5, v6, v7, v8, v9, v10, v11, v12, v13], []⟩ = p69 T I M pre post v0 v1 v2 v3 v4 v5 v6 v7 v8 v9 v10 v11 v12 v13 := by kernel_rfl
theorem k69 (T : Tab) (I : Nat → Env → Env → Prop) (M : Nat → Env → Env → Nat) (pre : Nat → List Int → List (List Int) → Prop) (hs : SubSig T c69.sigs) (ht : TotG pre c69.sigs) (hg : T.sig 69 = some s69) (hC : CtAll Try.prog T.fns (presQ pre) c69.sigs) (hk : CpAll Try.prog c69.cps) (hi : ∀ xs ls, allHas (parIvs s69.params) xs → pre 69 xs ls → allHas iv69 xs)
    (h : ∀ (v0 v1 v2 v3 v4 v5 v6 v7 v8 v9 v10 v11 v12 v13 : Int), allHas iv69 [v0, v1, v2, v3, v4, v5, v6, v7, v8, v9, v10, v11, v12, v13] → allL (parLvs s69.params) [] → pre 69 [v0, v1, v2, v3, v4, v5, v6, v7, v8, v9, v10, v11, v12, v13] [] → p69 T I M pre (fun ys _ => ys = T.app 69 [v0, v1, v2, v3, v4, v5, v6, v7, v8, v9, v10, v11, v12, v13] []) v0 v1 v2 v3 v4 v5 v6 v7 v8 v9 v10 v11 v12 v13) : CT Try.prog T.fns (presQ pre) 69 s69 :=
  T.ctg (F := ⟨c69, []⟩) (fuel := 250) vc69 Try.checked.mixed hs ht hg hC hk Try.func69 I M (fun xs ls h1 h2 h3 => ⟨hi xs ls h1 h3, h2⟩) fun xs ls hx hl hp => by
    match xs, ls, hx, hl, hp with
    | [v0, v1, v2, v3, v4, v5, v6, v7, v8, v9, v10, v11, v12, v13], [], hx, hl, hp => rw [q69]; exact h v0 v1 v2 v3 v4 v5 v6 v7 v8 v9 v10 v11 v12 v13 hx hl hp
/-- loop.example/g01242/impl.isLess -/
def s49 : Sig := ⟨[.val true [.b, .i .u32, .i .u32, .i .u32, .i .u32, .i .u32, .i .u32], .val true [.b, .i .u32, .i .u32, .i .u32, .i .u32, .i .u32, .i .u32]], [(false, [.b])], true⟩
noncomputable def c49 : Cfg := ⟨Try.prog, [(69, s69)], [], [], []⟩
def iv49 : List Iv := [⟨0, 1⟩, ⟨0, 4294967295⟩, ⟨0, 4294967295⟩, ⟨0, 4294967295⟩, ⟨0, 4294967295⟩, ⟨0, 4294967295⟩, ⟨0, 4294967295⟩, ⟨0, 1⟩, ⟨0, 4294967295⟩, ⟨0, 4294967295⟩, ⟨0, 4294967295⟩, ⟨0, 4294967295⟩, ⟨0, 4294967295⟩, ⟨0, 4294967295⟩]
def t49 : VC :=
 (.call 69 (.e (.var 0) (.e (.var 1) (.e (.var 2) (.e (.var 3) (.e (.var 4) (.e (.var 5) (.e (.var 6) (.e (.var 7) (.e (.var 8) (.e (.var 9) (.e (.var 10) (.e (.var 11) (.e (.var 12) (.e (.var 13) .nil)))))))))))))) 2
 (.fin (.e (.ite (.lt (.var 14) (.lit 0)) (.lit 1) (.lit 0)) .nil)))
theorem vc49 : vcOfI ⟨c49, []⟩ iv49 (parLvs s49.params) 250 Try.f49 s49 = t49 := by kernel_rfl
set_option linter.unusedVariables false in
def p49 (T : Tab) (I : Nat → Env → Env → Prop) (M : Nat → Env → Env → Nat) (pre : Nat → List Int → List (List Int) → Prop) (post : List Int → List (List Int) → Prop) (v0 v1 v2 v3 v4 v5 v6 v7 v8 v9 v10 v11 v12 v13 : Int) : Prop :=
 ∀ v14 v15 : Int, [v14, v15] = T.out 69 2 [v0, v1, v2, v3, v4, v5, v6, v7, v8, v9, v10, v11, v12, v13] →
 post [(if decide ((v14 : Int) < 0) = true then 1 else 0)] []
theorem q49 (T : Tab) (I : Nat → Env → Env → Prop) (M : Nat → Env → Env → Nat) (pre : Nat → List Int → List (List Int) → Prop) (post : List Int → List (List Int) → Prop) (v0 v1 v2 v3 v4 v5 v6 v7 v8 v9 v10 v11 v12 v13 : Int) : t49.plain T (presG pre I M) post ⟨[v0, v1, v2, v3, v4, v5, v6, v7, v8, v9, v10, v11, v12, v13], []⟩ = p49 T I M pre post v0 v1 v2 v3 v4 v5 v6 v7 v8 v9 v10 v11 v12 v13 := by kernel_rfl
theorem k49 (T : Tab) (I : Nat → Env → Env → Prop) (M : Nat → Env → Env → Nat) (pre : Nat → List Int → List (List Int) → Prop) (hs : SubSig T c49.sigs) (ht : TotG pre c49.sigs) (hg : T.sig 49 = some s49) (hC : CtAll Try.prog T.fns (presQ pre) c49.sigs) (hk : CpAll Try.prog c49.cps) (hi : ∀ xs ls, allHas (parIvs s49.params) xs → pre 49 xs ls → allHas iv49 xs)
    (h : ∀ (v0 v1 v2 v3 v4 v5 v6 v7 v8 v9 v10 v11 v12 v13 : Int), allHas iv49 [v0, v1, v2, v3, v4, v5, v6, v7, v8, v9, v10, v11, v12, v13] → allL (parLvs s49.params) [] → pre 49 [v0, v1, v2, v3, v4, v5, v6, v7, v8, v9, v10, v11, v12, v13] [] → p49 T I M pre (fun ys _ => ys = T.app 49 [v0, v1, v2, v3, v4, v5, v6, v7, v8, v9, v10, v11, v12, v13] []) v0 v1 v2 v3 v4 v5 v6 v7 v8 v9 v10 v11 v12 v13) : CT Try.prog T.fns (presQ pre) 49 s49 :=
  T.ctg (F := ⟨c49, []⟩) (fuel := 250) vc49 Try.checked.mixed hs ht hg hC hk Try.func49 I M (fun xs ls h1 h2 h3 => ⟨hi xs ls h1 h3, h2⟩) fun xs ls hx hl hp => by
    match xs, ls, hx, hl, hp with
    | [v0, v1, v2, v3, v4, v5, v6, v7, v8, v9, v10, v11, v12, v13], [], hx, hl, hp => rw [q49]; exact h v0 v1 v2 v3 v4 v5 v6 v7 v8 v9 v10 v11 v12 v13 hx hl hp
/-- loop.example/g01242/impl.ValidPart -/
def s21 : Sig := ⟨[.val true [.b, .i .u32, .i .u32, .i .u32, .i .u32, .i .u32, .i .u32, .b, .i .u32, .i .u32, .i .u32, .i .u32, .i .u32, .i .u32, .i .i64]], [(false, [.b])], true⟩
noncomputable def c21 : Cfg := ⟨Try.prog, [(48, s48), (49, s49)], [], [], []⟩
def iv21 : List Iv := [⟨0, 1⟩, ⟨0, 4294967295⟩, ⟨0, 4294967295⟩, ⟨0, 4294967295⟩, ⟨0, 4294967295⟩, ⟨0, 4294967295⟩, ⟨0, 4294967295⟩, ⟨0, 1⟩, ⟨0, 4294967295⟩, ⟨0, 4294967295⟩, ⟨0, 4294967295⟩, ⟨0, 4294967295⟩, ⟨0, 4294967295⟩, ⟨0, 4294967295⟩, ⟨(-9223372036854775808), 9223372036854775807⟩]
def t21 : VC :=
 (.call 48 (.e (.var 0) (.e (.var 1) (.e (.var 2) (.e (.var 3) (.e (.var 4) (.e (.var 5) (.e (.var 6) .nil))))))) 1
 (.ite (.eq (.var 15) (.lit 1))
  (.call 48 (.e (.var 7) (.e (.var 8) (.e (.var 9) (.e (.var 10) (.e (.var 11) (.e (.var 12) (.e (.var 13) .nil))))))) 1
  (.ite (.eq (.var 16) (.lit 1))
   (.call 49 (.e (.var 0) (.e (.var 1) (.e (.var 2) (.e (.var 3) (.e (.var 4) (.e (.var 5) (.e (.var 6) (.e (.var 7) (.e (.var 8) (.e (.var 9) (.e (.var 10) (.e (.var 11) (.e (.var 12) (.e (.var 13) .nil)))))))))))))) 1
   (.ite (.eq (.var 17) (.lit 1))
    (.ite (.le (.lit 0) (.var 14))
     (.fin (.e (.ite (.le (.var 14) (.lit 64)) (.lit 1) (.lit 0)) .nil))
     (.fin (.e (.lit 0) .nil)))
    (.fin (.e (.lit 0) .nil))))
   (.fin (.e (.lit 0) .nil))))
  (.fin (.e (.lit 0) .nil))))
theorem vc21 : vcOfI ⟨c21, []⟩ iv21 (parLvs s21.params) 250 Try.f21 s21 = t21 := by kernel_rfl
set_option linter.unusedVariables false in
def p21 (T : Tab) (I : Nat → Env → Env → Prop) (M : Nat → Env → Env → Nat) (pre : Nat → List Int → List (List Int) → Prop) (post : List Int → List (List Int) → Prop) (v0 v1 v2 v3 v4 v5 v6 v7 v8 v9 v10 v11 v12 v13 v14 : Int) : Prop :=
 ∀ v15 : Int, [v15] = T.out 48 1 [v0, v1, v2, v3, v4, v5, v6] →
 ((decide ((v15 : Int) = 1) = true →
  ∀ v16 : Int, [v16] = T.out 48 1 [v7, v8, v9, v10, v11, v12, v13] →
  ((decide ((v16 : Int) = 1) = true →
   ∀ v17 : Int, [v17] = T.out 49 1 [v0, v1, v2, v3, v4, v5, v6, v7, v8, v9, v10, v11, v12, v13] →
   ((decide ((v17 : Int) = 1) = true →
    ((decide ((0 : Int) ≤ v14) = true →
     post [(if decide ((v14 : Int) ≤ 64) = true then 1 else 0)] []) ∧ (decide ((0 : Int) ≤ v14) = false →
     post [0] []))) ∧ (decide ((v17 : Int) = 1) = false →
    post [0] []))) ∧ (decide ((v16 : Int) = 1) = false →
   post [0] []))) ∧ (decide ((v15 : Int) = 1) = false →
  post [0] []))
theorem q21 (T : Tab) (I : Nat → Env → Env → Prop) (M : Nat → Env → Env → Nat) (pre : Nat → List Int → List (List Int) → Prop) (post : List Int → List (List Int) → Prop) (v0 v1 v2 v3 v4 v5 v6 v7 v8 v9 v10 v11 v12 v13 v14 : Int) : t21.plain T (presG pre I M) post ⟨[v0, v1, v2, v3, v4, v5, v6, v7, v8, v9, v10, v11, v12, v13, v14], []⟩ = p21 T I M pre post v0 v1 v2 v3 v4 v5 v6 v7 v8 v9 v10 v11 v12 v13 v14 := by kernel_rfl
theorem k21 (T : Tab) (I : Nat → Env → Env → Prop) (M : Nat → Env → Env → Nat) (pre : Nat → List Int → List (List Int) → Prop) (hs : SubSig T c21.sigs) (ht : TotG pre c21.sigs) (hg : T.sig 21 = some s21) (hC : CtAll Try.prog T.fns (presQ pre) c21.sigs) (hk : CpAll Try.prog c21.cps) (hi : ∀ xs ls, allHas (parIvs s21.params) xs → pre 21 xs ls → allHas iv21 xs)
    (h : ∀ (v0 v1 v2 v3 v4 v5 v6 v7 v8 v9 v10 v11 v12 v13 v14 : Int), allHas iv21 [v0, v1, v2, v3, v4, v5, v6, v7, v8, v9, v10, v11, v12, v13, v14] → allL (parLvs s21.params) [] → pre 21 [v0, v1, v2, v3, v4, v5, v6, v7, v8, v9, v10, v11, v12, v13, v14] [] → p21 T I M pre (fun ys _ => ys = T.app 21 [v0, v1, v2, v3, v4, v5, v6, v7, v8, v9, v10, v11, v12, v13, v14] []) v0 v1 v2 v3 v4 v5 v6 v7 v8 v9 v10 v11 v12 v13 v14) : CT Try.prog T.fns (presQ pre) 21 s21 :=
  T.ctg (F := ⟨c21, []⟩) (fuel := 250) vc21 Try.checked.mixed hs ht hg hC hk Try.func21 I M (fun xs ls h1 h2 h3 => ⟨hi xs ls h1 h3, h2⟩) fun xs ls hx hl hp => by
    match xs, ls, hx, hl, hp with
    | [v0, v1, v2, v3, v4, v5, v6, v7, v8, v9, v10, v11, v12, v13, v14], [], hx, hl, hp => rw [q21]; exact h v0 v1 v2 v3 v4 v5 v6 v7 v8 v9 v10 v11 v12 v13 v14 hx hl hp
/-- loop.example/g01242/laws.FnExactValidPart -/
def s5 : Sig := ⟨[.val true [.b, .i .u32, .i .u32, .i .u32, .i .u32, .i .u32, .i .u32, .b, .i .u32, .i .u32, .i .u32, .i .u32, .i .u32, .i .u32, .i .i64]], [(false, [.b])], true⟩
noncomputable def c5 : Cfg := ⟨Try.prog, [(20, s20), (19, s19), (21, s21)], [], [], []⟩
def iv5 : List Iv := [⟨0, 1⟩, ⟨0, 4294967295⟩, ⟨0, 4294967295⟩, ⟨0, 4294967295⟩, ⟨0, 4294967295⟩, ⟨0, 4294967295⟩, ⟨0, 4294967295⟩, ⟨0, 1⟩, ⟨0, 4294967295⟩, ⟨0, 4294967295⟩, ⟨0, 4294967295⟩, ⟨0, 4294967295⟩, ⟨0, 4294967295⟩, ⟨0, 4294967295⟩, ⟨(-9223372036854775808), 9223372036854775807⟩]
def t5 : VC :=
 (.call 20 (.e (.var 0) (.e (.var 1) (.e (.var 2) (.e (.var 3) (.e (.var 4) (.e (.var 5) (.e (.var 6) (.e (.var 7) (.e (.var 8) (.e (.var 9) (.e (.var 10) (.e (.var 11) (.e (.var 12) (.e (.var 13) (.e (.var 14) .nil))))))))))))))) 15
 (.call 19 (.e (.var 15) (.e (.var 16) (.e (.var 17) (.e (.var 18) (.e (.var 19) (.e (.var 20) (.e (.var 21) (.e (.var 22) (.e (.var 23) (.e (.var 24) (.e (.var 25) (.e (.var 26) (.e (.var 27) (.e (.var 28) (.e (.var 29) .nil))))))))))))))) 1
 (.call 20 (.e (.var 0) (.e (.var 1) (.e (.var 2) (.e (.var 3) (.e (.var 4) (.e (.var 5) (.e (.var 6) (.e (.var 7) (.e (.var 8) (.e (.var 9) (.e (.var 10) (.e (.var 11) (.e (.var 12) (.e (.var 13) (.e (.var 14) .nil))))))))))))))) 15
 (.call 21 (.e (.var 31) (.e (.var 32) (.e (.var 33) (.e (.var 34) (.e (.var 35) (.e (.var 36) (.e (.var 37) (.e (.var 38) (.e (.var 39) (.e (.var 40) (.e (.var 41) (.e (.var 42) (.e (.var 43) (.e (.var 44) (.e (.var 45) .nil))))))))))))))) 1
 (.ite (.not (.beq (.eq (.var 46) (.lit 1)) (.eq (.var 30) (.lit 1))))
  (.fin (.e (.lit 0) .nil))
  (.fin (.e (.lit 1) .nil)))))))
theorem vc5 : vcOfI ⟨c5, []⟩ iv5 (parLvs s5.params) 250 Try.f5 s5 = t5 := by kernel_rfl
set_option linter.unusedVariables false in
def p5 (T : Tab) (I : Nat → Env → Env → Prop) (M : Nat → Env → Env → Nat) (pre : Nat → List Int → List (List Int) → Prop) (post : List Int → List (List Int) → Prop) (v0 v1 v2 v3 v4 v5 v6 v7 v8 v9 v10 v11 v12 v13 v14 : Int) : Prop :=
 ∀ v15 v16 v17 v18 v19 v20 v21 v22 v23 v24 v25 v26 v27 v28 v29 : Int, [v15, v16, v17, v18, v19, v20, v21, v22, v23, v24, v25, v26, v27, v28, v29] = T.out 20 15 [v0, v1, v2, v3, v4, v5, v6, v7, v8, v9, v10, v11, v12, v13, v14] →
 ∀ v30 : Int, [v30] = T.out 19 1 [v15, v16, v17, v18, v19, v20, v21, v22, v23, v24, v25, v26, v27, v28, v29] →
 ∀ v31 v32 v33 v34 v35 v36 v37 v38 v39 v40 v41 v42 v43 v44 v45 : Int, [v31, v32, v33, v34, v35, v36, v37, v38, v39, v40, v41, v42, v43, v44, v45] = T.out 20 15 [v0, v1, v2, v3, v4, v5, v6, v7, v8, v9, v10, v11, v12, v13, v14] →
 ∀ v46 : Int, [v46] = T.out 21 1 [v31, v32, v33, v34, v35, v36, v37, v38, v39, v40, v41, v42, v43, v44, v45] →
 (((!(decide ((v46 : Int) = 1) == decide ((v30 : Int) = 1))) = true →
  post [0] []) ∧ ((!(decide ((v46 : Int) = 1) == decide ((v30 : Int) = 1))) = false →
  post [1] []))
theorem q5 (T : Tab) (I : Nat → Env → Env → Prop) (M : Nat → Env → Env → Nat) (pre : Nat → List Int → List (List Int) → Prop) (post : List Int → List (List Int) → Prop) (v0 v1 v2 v3 v4 v5 v6 v7 v8 v9 v10 v11 v12 v13 v14 : Int) : t5.plain T (presG pre I M) post ⟨[v0, v1, v2, v3, v4, v5, v6, v7, v8, v9, v10, v11, v12, v13, v14], []⟩ = p5 T I M pre post v0 v1 v2 v3 v4 v5 v6 v7 v8 v9 v10 v11 v12 v13 v14 := by kernel_rfl
theorem k5 (T : Tab) (I : Nat → Env → Env → Prop) (M : Nat → Env → Env → Nat) (pre : Nat → List Int → List (List Int) → Prop) (hs : SubSig T c5.sigs) (ht : TotG pre c5.sigs) (hg : T.sig 5 = some s5) (hC : CtAll Try.prog T.fns (presQ pre) c5.sigs) (hk : CpAll Try.prog c5.cps) (hi : ∀ xs ls, allHas (parIvs s5.params) xs → pre 5 xs ls → allHas iv5 xs)
    (h : ∀ (v0 v1 v2 v3 v4 v5 v6 v7 v8 v9 v10 v11 v12 v13 v14 : Int), allHas iv5 [v0, v1, v2, v3, v4, v5, v6, v7, v8, v9, v10, v11, v12, v13, v14] → allL (parLvs s5.params) [] → pre 5 [v0, v1, v2, v3, v4, v5, v6, v7, v8, v9, v10, v11, v12, v13, v14] [] → p5 T I M pre (fun ys _ => ys = T.app 5 [v0, v1, v2, v3, v4, v5, v6, v7, v8, v9, v10, v11, v12, v13, v14] []) v0 v1 v2 v3 v4 v5 v6 v7 v8 v9 v10 v11 v12 v13 v14) : CT Try.prog T.fns (presQ pre) 5 s5 :=
  T.ctg (F := ⟨c5, []⟩) (fuel := 250) vc5 Try.checked.mixed hs ht hg hC hk Try.func5 I M (fun xs ls h1 h2 h3 => ⟨hi xs ls h1 h3, h2⟩) fun xs ls hx hl hp => by
    match xs, ls, hx, hl, hp with
    | [v0, v1, v2, v3, v4, v5, v6, v7, v8, v9, v10, v11, v12, v13, v14], [], hx, hl, hp => rw [q5]; exact h v0 v1 v2 v3 v4 v5 v6 v7 v8 v9 v10 v11 v12 v13 v14 hx hl hp
end Go.Proofs.Ytfpodondpanmaaa.Sx
