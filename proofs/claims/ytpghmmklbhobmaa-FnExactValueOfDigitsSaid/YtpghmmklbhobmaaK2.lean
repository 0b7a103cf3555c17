import Derived.Test.YtpghmmklbhobmaaSxX
import Derived.Test.YtpghmmklbhobmaaSxZ
import Derived.Test.YtpghmmklbhobmaaK1
import Derived.Test.YtpghmmklbhobmaaChecked
import Derived.KernelRfl
namespace Go.Proofs.Ytpghmmklbhobmaa.Sx
open Go Go.RowKit
/-- loop.example/g01242/impl.ValidWide -/
def s21 : Sig := ⟨[.val true [.b, .i .u32, .i .u32, .i .u32, .i .u32, .i .u32, .i .u32]], [(false, [.b])], true⟩
noncomputable def c21 : Cfg := ⟨Try.prog, [], [], [], [], [], [], [], 77, []⟩
def iv21 : List Iv := [⟨0, 1⟩, ⟨0, 4294967295⟩, ⟨0, 4294967295⟩, ⟨0, 4294967295⟩, ⟨0, 4294967295⟩, ⟨0, 4294967295⟩, ⟨0, 4294967295⟩]
def t21 : VC :=
 (.ite (.eq (.var 0) (.lit 1))
  (.bind (.ite (.not (.and (.eq (.var 1) (.lit 0)) (.and (.eq (.var 2) (.lit 0)) (.and (.eq (.var 3) (.lit 0)) (.and (.eq (.var 4) (.lit 0)) (.and (.eq (.var 5) (.lit 0)) (.eq (.var 6) (.lit 0)))))))) (.lit 1) (.lit 0))
  (.fin (.e (.var 7) .nil)))
  (.fin (.e (.lit 1) .nil)))
theorem vc21 : vcOfI ⟨c21, []⟩ iv21 (parLvs s21.params) 250 Try.f21 s21 = t21 := by kernel_rfl
set_option linter.unusedVariables false in
def p21 (T : Tab) (I : Nat → Env → Env → Prop) (M : Nat → Env → Env → Nat) (pre : Nat → List Int → List (List Int) → Prop) (post : List Int → List (List Int) → Prop) (v0 v1 v2 v3 v4 v5 v6 : Int) : Prop :=
 ((decide ((v0 : Int) = 1) = true →
  ∀ v7 : Int, v7 = (if (!(decide ((v1 : Int) = 0) && (decide ((v2 : Int) = 0) && (decide ((v3 : Int) = 0) && (decide ((v4 : Int) = 0) && (decide ((v5 : Int) = 0) && decide ((v6 : Int) = 0))))))) = true then 1 else 0) →
  post [v7] []) ∧ (decide ((v0 : Int) = 1) = false →
  post [1] []))
theorem q21 (T : Tab) (I : Nat → Env → Env → Prop) (M : Nat → Env → Env → Nat) (pre : Nat → List Int → List (List Int) → Prop) (post : List Int → List (List Int) → Prop) (v0 v1 v2 v3 v4 v5 v6 : Int) : t21.plain T (presG pre I M) post ⟨[v0, v1, v2, v3, v4, v5, v6], []⟩ = p21 T I M pre post v0 v1 v2 v3 v4 v5 v6 := by kernel_rfl
theorem k21 (T : Tab) (I : Nat → Env → Env → Prop) (M : Nat → Env → Env → Nat) (pre : Nat → List Int → List (List Int) → Prop) (hs : SubSig T c21.sigs) (ht : TotG pre c21.sigs) (hg : T.sig 21 = some s21) (hC : CtAll Try.prog T.fns (presQ pre) c21.pfs c21.pty c21.cls c21.sigs) (hk : CpAll Try.prog c21.cps) (hi : ∀ xs ls, allHas (parIvs s21.params) xs → pre 21 xs ls → allHas iv21 xs)
    (h : ∀ (v0 v1 v2 v3 v4 v5 v6 : Int), allHas iv21 [v0, v1, v2, v3, v4, v5, v6] → allL (parLvs s21.params) [] → pre 21 [v0, v1, v2, v3, v4, v5, v6] [] → p21 T I M pre (fun ys _ => ys = T.app 21 [v0, v1, v2, v3, v4, v5, v6] []) v0 v1 v2 v3 v4 v5 v6) : CT Try.prog T.fns (presQ pre) 21 s21 :=
  T.ctg (F := ⟨c21, []⟩) (fuel := 250) vc21 Try.checked.mixed hs ht hg hC hk Try.func21 I M (fun xs ls h1 h2 h3 => ⟨hi xs ls h1 h3, h2⟩) fun xs ls hx hl hp => by
    match xs, ls, hx, hl, hp with
    | [v0, v1, v2, v3, v4, v5, v6], [], hx, hl, hp => rw [q21]; exact h v0 v1 v2 v3 v4 v5 v6 hx hl hp
/-- loop.example/g01242/impl.wideOfSize -/
def s55 : Sig := ⟨[.val false [.b], .val true [.i .u32, .i .u32, .i .u32, .i .u32, .i .u32, .i .u32]], [(true, [.b, .i .u32, .i .u32, .i .u32, .i .u32, .i .u32, .i .u32])], true⟩
noncomputable def c55 : Cfg := ⟨Try.prog, [(46, s46)], [], [], [], [], [], [], 77, []⟩
def iv55 : List Iv := [⟨0, 1⟩, ⟨0, 4294967295⟩, ⟨0, 4294967295⟩, ⟨0, 4294967295⟩, ⟨0, 4294967295⟩, ⟨0, 4294967295⟩, ⟨0, 4294967295⟩]
def t55 : VC :=
 (.ite (.eq (.var 0) (.lit 1))
  (.call 46 (.e (.var 1) (.e (.var 2) (.e (.var 3) (.e (.var 4) (.e (.var 5) (.e (.var 6) .nil)))))) 1
  (.fin (.e (.ite (.not (.eq (.var 7) (.lit 1))) (.lit 1) (.lit 0)) (.e (.var 1) (.e (.var 2) (.e (.var 3) (.e (.var 4) (.e (.var 5) (.e (.var 6) .nil)))))))))
  (.fin (.e (.lit 0) (.e (.var 1) (.e (.var 2) (.e (.var 3) (.e (.var 4) (.e (.var 5) (.e (.var 6) .nil)))))))))
theorem vc55 : vcOfI ⟨c55, []⟩ iv55 (parLvs s55.params) 250 Try.f55 s55 = t55 := by kernel_rfl
set_option linter.unusedVariables false in
def p55 (T : Tab) (I : Nat → Env → Env → Prop) (M : Nat → Env → Env → Nat) (pre : Nat → List Int → List (List Int) → Prop) (post : List Int → List (List Int) → Prop) (v0 v1 v2 v3 v4 v5 v6 : Int) : Prop :=
 ((decide ((v0 : Int) = 1) = true →
  ∀ v7 : Int, [v7] = T.out 46 1 [v1, v2, v3, v4, v5, v6] →
  post [(if (!decide ((v7 : Int) = 1)) = true then 1 else 0), v1, v2, v3, v4, v5, v6] []) ∧ (decide ((v0 : Int) = 1) = false →
  post [0, v1, v2, v3, v4, v5, v6] []))
theorem q55 (T : Tab) (I : Nat → Env → Env → Prop) (M : Nat → Env → Env → Nat) (pre : Nat → List Int → List (List Int) → Prop) (post : List Int → List (List Int) → Prop) (v0 v1 v2 v3 v4 v5 v6 : Int) : t55.plain T (presG pre I M) post ⟨[v0, v1, v2, v3, v4, v5, v6], []⟩ = p55 T I M pre post v0 v1 v2 v3 v4 v5 v6 := by kernel_rfl
theorem k55 (T : Tab) (I : Nat → Env → Env → Prop) (M : Nat → Env → Env → Nat) (pre : Nat → List Int → List (List Int) → Prop) (hs : SubSig T c55.sigs) (ht : TotG pre c55.sigs) (hg : T.sig 55 = some s55) (hC : CtAll Try.prog T.fns (presQ pre) c55.pfs c55.pty c55.cls c55.sigs) (hk : CpAll Try.prog c55.cps) (hi : ∀ xs ls, allHas (parIvs s55.params) xs → pre 55 xs ls → allHas iv55 xs)
    (h : ∀ (v0 v1 v2 v3 v4 v5 v6 : Int), allHas iv55 [v0, v1, v2, v3, v4, v5, v6] → allL (parLvs s55.params) [] → pre 55 [v0, v1, v2, v3, v4, v5, v6] [] → p55 T I M pre (fun ys _ => ys = T.app 55 [v0, v1, v2, v3, v4, v5, v6] []) v0 v1 v2 v3 v4 v5 v6) : CT Try.prog T.fns (presQ pre) 55 s55 :=
  T.ctg (F := ⟨c55, []⟩) (fuel := 250) vc55 Try.checked.mixed hs ht hg hC hk Try.func55 I M (fun xs ls h1 h2 h3 => ⟨hi xs ls h1 h3, h2⟩) fun xs ls hx hl hp => by
    match xs, ls, hx, hl, hp with
    | [v0, v1, v2, v3, v4, v5, v6], [], hx, hl, hp => rw [q55]; exact h v0 v1 v2 v3 v4 v5 v6 hx hl hp
/-- loop.example/g01242/impl.wideWithin -/
def s48 : Sig := ⟨[.val false [.b], .val true [.i .u32, .i .u32, .i .u32, .i .u32, .i .u32, .i .u32], .val false [.b]], [(true, [.b, .i .u32, .i .u32, .i .u32, .i .u32, .i .u32, .i .u32]), (false, [.i .i64])], true⟩
noncomputable def c48 : Cfg := ⟨Try.prog, [(55, s55)], [], [], [], [], [], [], 77, []⟩
def iv48 : List Iv := [⟨0, 1⟩, ⟨0, 4294967295⟩, ⟨0, 4294967295⟩, ⟨0, 4294967295⟩, ⟨0, 4294967295⟩, ⟨0, 4294967295⟩, ⟨0, 4294967295⟩, ⟨0, 1⟩]
def t48 : VC :=
 (.ite (.eq (.var 7) (.lit 1))
  (.fin (.e (.lit 0) (.e (.lit 0) (.e (.lit 0) (.e (.lit 0) (.e (.lit 0) (.e (.lit 0) (.e (.lit 0) (.e (.lit 3) .nil)))))))))
  (.call 55 (.e (.var 0) (.e (.var 1) (.e (.var 2) (.e (.var 3) (.e (.var 4) (.e (.var 5) (.e (.var 6) .nil))))))) 7
  (.fin (.e (.var 8) (.e (.var 9) (.e (.var 10) (.e (.var 11) (.e (.var 12) (.e (.var 13) (.e (.var 14) (.e (.lit 0) .nil)))))))))))
theorem vc48 : vcOfI ⟨c48, []⟩ iv48 (parLvs s48.params) 250 Try.f48 s48 = t48 := by kernel_rfl
set_option linter.unusedVariables false in
def p48 (T : Tab) (I : Nat → Env → Env → Prop) (M : Nat → Env → Env → Nat) (pre : Nat → List Int → List (List Int) → Prop) (post : List Int → List (List Int) → Prop) (v0 v1 v2 v3 v4 v5 v6 v7 : Int) : Prop :=
 ((decide ((v7 : Int) = 1) = true →
  post [0, 0, 0, 0, 0, 0, 0, 3] []) ∧ (decide ((v7 : Int) = 1) = false →
  ∀ v8 v9 v10 v11 v12 v13 v14 : Int, [v8, v9, v10, v11, v12, v13, v14] = T.out 55 7 [v0, v1, v2, v3, v4, v5, v6] →
  post [v8, v9, v10, v11, v12, v13, v14, 0] []))
theorem q48 (T : Tab) (I : Nat → Env → Env → Prop) (M : Nat → Env → Env → Nat) (pre : Nat → List Int → List (List Int) → Prop) (post : List Int → List (List Int) → Prop) (v0 v1 v2 v3 v4 v5 v6 v7 : Int) : t48.plain T (presG pre I M) post ⟨[v0, v1, v2, v3, v4, v5, v6, v7], []⟩ = p48 T I M pre post v0 v1 v2 v3 v4 v5 v6 v7 := by kernel_rfl
theorem k48 (T : Tab) (I : Nat → Env → Env → Prop) (M : Nat → Env → Env → Nat) (pre : Nat → List Int → List (List Int) → Prop) (hs : SubSig T c48.sigs) (ht : TotG pre c48.sigs) (hg : T.sig 48 = some s48) (hC : CtAll Try.prog T.fns (presQ pre) c48.pfs c48.pty c48.cls c48.sigs) (hk : CpAll Try.prog c48.cps) (hi : ∀ xs ls, allHas (parIvs s48.params) xs → pre 48 xs ls → allHas iv48 xs)
    (h : ∀ (v0 v1 v2 v3 v4 v5 v6 v7 : Int), allHas iv48 [v0, v1, v2, v3, v4, v5, v6, v7] → allL (parLvs s48.params) [] → pre 48 [v0, v1, v2, v3, v4, v5, v6, v7] [] → p48 T I M pre (fun ys _ => ys = T.app 48 [v0, v1, v2, v3, v4, v5, v6, v7] []) v0 v1 v2 v3 v4 v5 v6 v7) : CT Try.prog T.fns (presQ pre) 48 s48 :=
  T.ctg (F := ⟨c48, []⟩) (fuel := 250) vc48 Try.checked.mixed hs ht hg hC hk Try.func48 I M (fun xs ls h1 h2 h3 => ⟨hi xs ls h1 h3, h2⟩) fun xs ls hx hl hp => by
    match xs, ls, hx, hl, hp with
    | [v0, v1, v2, v3, v4, v5, v6, v7], [], hx, hl, hp => rw [q48]; exact h v0 v1 v2 v3 v4 v5 v6 v7 hx hl hp
/-- loop.example/g01242/impl.NegWide -/
def s44 : Sig := ⟨[.val true [.b, .i .u32, .i .u32, .i .u32, .i .u32, .i .u32, .i .u32]], [(true, [.b, .i .u32, .i .u32, .i .u32, .i .u32, .i .u32, .i .u32]), (false, [.i .i64])], true⟩
noncomputable def c44 : Cfg := ⟨Try.prog, [(21, s21), (55, s55)], [], [], [], [], [], [], 77, []⟩
def iv44 : List Iv := [⟨0, 1⟩, ⟨0, 4294967295⟩, ⟨0, 4294967295⟩, ⟨0, 4294967295⟩, ⟨0, 4294967295⟩, ⟨0, 4294967295⟩, ⟨0, 4294967295⟩]
def t44 : VC :=
 (.call 21 (.e (.var 0) (.e (.var 1) (.e (.var 2) (.e (.var 3) (.e (.var 4) (.e (.var 5) (.e (.var 6) .nil))))))) 1
 (.ite (.not (.eq (.var 7) (.lit 1)))
  (.fin (.e (.lit 0) (.e (.lit 0) (.e (.lit 0) (.e (.lit 0) (.e (.lit 0) (.e (.lit 0) (.e (.lit 0) (.e (.lit 1) .nil)))))))))
  (.call 55 (.e (.ite (.not (.eq (.var 0) (.lit 1))) (.lit 1) (.lit 0)) (.e (.var 1) (.e (.var 2) (.e (.var 3) (.e (.var 4) (.e (.var 5) (.e (.var 6) .nil))))))) 7
  (.fin (.e (.var 8) (.e (.var 9) (.e (.var 10) (.e (.var 11) (.e (.var 12) (.e (.var 13) (.e (.var 14) (.e (.lit 0) .nil))))))))))))
theorem vc44 : vcOfI ⟨c44, []⟩ iv44 (parLvs s44.params) 250 Try.f44 s44 = t44 := by kernel_rfl
set_option linter.unusedVariables false in
def p44 (T : Tab) (I : Nat → Env → Env → Prop) (M : Nat → Env → Env → Nat) (pre : Nat → List Int → List (List Int) → Prop) (post : List Int → List (List Int) → Prop) (v0 v1 v2 v3 v4 v5 v6 : Int) : Prop :=
 ∀ v7 : Int, [v7] = T.out 21 1 [v0, v1, v2, v3, v4, v5, v6] →
 (((!decide ((v7 : Int) = 1)) = true →
  post [0, 0, 0, 0, 0, 0, 0, 1] []) ∧ ((!decide ((v7 : Int) = 1)) = false →
  ∀ v8 v9 v10 v11 v12 v13 v14 : Int, [v8, v9, v10, v11, v12, v13, v14] = T.out 55 7 [(if (!decide ((v0 : Int) = 1)) = true then 1 else 0), v1, v2, v3, v4, v5, v6] →
  post [v8, v9, v10, v11, v12, v13, v14, 0] []))
theorem q44 (T : Tab) (I : Nat → Env → Env → Prop) (M : Nat → Env → Env → Nat) (pre : Nat → List Int → List (List Int) → Prop) (post : List Int → List (List Int) → Prop) (v0 v1 v2 v3 v4 v5 v6 : Int) : t44.plain T (presG pre I M) post ⟨[v0, v1, v2, v3, v4, v5, v6], []⟩ = p44 T I M pre post v0 v1 v2 v3 v4 v5 v6 := by kernel_rfl
theorem k44 (T : Tab) (I : Nat → Env → Env → Prop) (M : Nat → Env → Env → Nat) (pre : Nat → List Int → List (List Int) → Prop) (hs : SubSig T c44.sigs) (ht : TotG pre c44.sigs) (hg : T.sig 44 = some s44) (hC : CtAll Try.prog T.fns (presQ pre) c44.pfs c44.pty c44.cls c44.sigs) (hk : CpAll Try.prog c44.cps) (hi : ∀ xs ls, allHas (parIvs s44.params) xs → pre 44 xs ls → allHas iv44 xs)
    (h : ∀ (v0 v1 v2 v3 v4 v5 v6 : Int), allHas iv44 [v0, v1, v2, v3, v4, v5, v6] → allL (parLvs s44.params) [] → pre 44 [v0, v1, v2, v3, v4, v5, v6] [] → p44 T I M pre (fun ys _ => ys = T.app 44 [v0, v1, v2, v3, v4, v5, v6] []) v0 v1 v2 v3 v4 v5 v6) : CT Try.prog T.fns (presQ pre) 44 s44 :=
  T.ctg (F := ⟨c44, []⟩) (fuel := 250) vc44 Try.checked.mixed hs ht hg hC hk Try.func44 I M (fun xs ls h1 h2 h3 => ⟨hi xs ls h1 h3, h2⟩) fun xs ls hx hl hp => by
    match xs, ls, hx, hl, hp with
    | [v0, v1, v2, v3, v4, v5, v6], [], hx, hl, hp => rw [q44]; exact h v0 v1 v2 v3 v4 v5 v6 hx hl hp
/-- loop.example/g01242/impl.AddWides -/
def s45 : Sig := ⟨[.val true [.b, .i .u32, .i .u32, .i .u32, .i .u32, .i .u32, .i .u32], .val true [.b, .i .u32, .i .u32, .i .u32, .i .u32, .i .u32, .i .u32]], [(true, [.b, .i .u32, .i .u32, .i .u32, .i .u32, .i .u32, .i .u32]), (false, [.i .i64])], true⟩
noncomputable def c45 : Cfg := ⟨Try.prog, [(21, s21), (49, s49), (48, s48), (29, s29), (56, s56), (55, s55)], [], [], [], [], [], [], 77, []⟩
def iv45 : List Iv := [⟨0, 1⟩, ⟨0, 4294967295⟩, ⟨0, 4294967295⟩, ⟨0, 4294967295⟩, ⟨0, 4294967295⟩, ⟨0, 4294967295⟩, ⟨0, 4294967295⟩, ⟨0, 1⟩, ⟨0, 4294967295⟩, ⟨0, 4294967295⟩, ⟨0, 4294967295⟩, ⟨0, 4294967295⟩, ⟨0, 4294967295⟩, ⟨0, 4294967295⟩]
def t45 : VC :=
 (.call 21 (.e (.var 0) (.e (.var 1) (.e (.var 2) (.e (.var 3) (.e (.var 4) (.e (.var 5) (.e (.var 6) .nil))))))) 1
 (.ite (.eq (.var 14) (.lit 1))
  (.call 21 (.e (.var 7) (.e (.var 8) (.e (.var 9) (.e (.var 10) (.e (.var 11) (.e (.var 12) (.e (.var 13) .nil))))))) 1
  (.ite (.not (.eq (.var 15) (.lit 1)))
   (.fin (.e (.lit 0) (.e (.lit 0) (.e (.lit 0) (.e (.lit 0) (.e (.lit 0) (.e (.lit 0) (.e (.lit 0) (.e (.lit 1) .nil)))))))))
   (.ite (.beq (.eq (.var 0) (.lit 1)) (.eq (.var 7) (.lit 1)))
    (.call 49 (.e (.var 1) (.e (.var 2) (.e (.var 3) (.e (.var 4) (.e (.var 5) (.e (.var 6) (.e (.var 8) (.e (.var 9) (.e (.var 10) (.e (.var 11) (.e (.var 12) (.e (.var 13) .nil)))))))))))) 7
    (.call 48 (.e (.var 0) (.e (.var 16) (.e (.var 17) (.e (.var 18) (.e (.var 19) (.e (.var 20) (.e (.var 21) (.e (.var 22) .nil)))))))) 8
    (.fin (.e (.var 23) (.e (.var 24) (.e (.var 25) (.e (.var 26) (.e (.var 27) (.e (.var 28) (.e (.var 29) (.e (.var 30) .nil)))))))))))
    (.call 29 (.e (.var 1) (.e (.var 2) (.e (.var 3) (.e (.var 4) (.e (.var 5) (.e (.var 6) (.e (.var 8) (.e (.var 9) (.e (.var 10) (.e (.var 11) (.e (.var 12) (.e (.var 13) .nil)))))))))))) 1
    (.ite (.le (.lit 0) (.var 16))
     (.call 56 (.e (.var 1) (.e (.var 2) (.e (.var 3) (.e (.var 4) (.e (.var 5) (.e (.var 6) (.e (.var 8) (.e (.var 9) (.e (.var 10) (.e (.var 11) (.e (.var 12) (.e (.var 13) .nil)))))))))))) 6
     (.call 55 (.e (.var 0) (.e (.var 17) (.e (.var 18) (.e (.var 19) (.e (.var 20) (.e (.var 21) (.e (.var 22) .nil))))))) 7
     (.fin (.e (.var 23) (.e (.var 24) (.e (.var 25) (.e (.var 26) (.e (.var 27) (.e (.var 28) (.e (.var 29) (.e (.lit 0) .nil)))))))))))
     (.call 56 (.e (.var 8) (.e (.var 9) (.e (.var 10) (.e (.var 11) (.e (.var 12) (.e (.var 13) (.e (.var 1) (.e (.var 2) (.e (.var 3) (.e (.var 4) (.e (.var 5) (.e (.var 6) .nil)))))))))))) 6
     (.call 55 (.e (.var 7) (.e (.var 17) (.e (.var 18) (.e (.var 19) (.e (.var 20) (.e (.var 21) (.e (.var 22) .nil))))))) 7
     (.fin (.e (.var 23) (.e (.var 24) (.e (.var 25) (.e (.var 26) (.e (.var 27) (.e (.var 28) (.e (.var 29) (.e (.lit 0) .nil))))))))))))))))
  (.fin (.e (.lit 0) (.e (.lit 0) (.e (.lit 0) (.e (.lit 0) (.e (.lit 0) (.e (.lit 0) (.e (.lit 0) (.e (.lit 1) .nil)))))))))))
theorem vc45 : vcOfI ⟨c45, []⟩ iv45 (parLvs s45.params) 250 Try.f45 s45 = t45 := by kernel_rfl
set_option linter.unusedVariables false in
def p45 (T : Tab) (I : Nat → Env → Env → Prop) (M : Nat → Env → Env → Nat) (pre : Nat → List Int → List (List Int) → Prop) (post : List Int → List (List Int) → Prop) (v0 v1 v2 v3 v4 v5 v6 v7 v8 v9 v10 v11 v12 v13 : Int) : Prop :=
 ∀ v14 : Int, [v14] = T.out 21 1 [v0, v1, v2, v3, v4, v5, v6] →
 ((decide ((v14 : Int) = 1) = true →
  ∀ v15 : Int, [v15] = T.out 21 1 [v7, v8, v9, v10, v11, v12, v13] →
  (((!decide ((v15 : Int) = 1)) = true →
   post [0, 0, 0, 0, 0, 0, 0, 1] []) ∧ ((!decide ((v15 : Int) = 1)) = false →
   (((decide ((v0 : Int) = 1) == decide ((v7 : Int) = 1)) = true →
    ∀ v16 v17 v18 v19 v20 v21 v22 : Int, [v16, v17, v18, v19, v20, v21, v22] = T.out 49 7 [v1, v2, v3, v4, v5, v6, v8, v9, v10, v11, v12, v13] →
    ∀ v23 v24 v25 v26 v27 v28 v29 v30 : Int, [v23, v24, v25, v26, v27, v28, v29, v30] = T.out 48 8 [v0, v16, v17, v18, v19, v20, v21, v22] →
    post [v23, v24, v25, v26, v27, v28, v29, v30] []) ∧ ((decide ((v0 : Int) = 1) == decide ((v7 : Int) = 1)) = false →
    ∀ v16 : Int, [v16] = T.out 29 1 [v1, v2, v3, v4, v5, v6, v8, v9, v10, v11, v12, v13] →
    ((decide ((0 : Int) ≤ v16) = true →
     ∀ v17 v18 v19 v20 v21 v22 : Int, [v17, v18, v19, v20, v21, v22] = T.out 56 6 [v1, v2, v3, v4, v5, v6, v8, v9, v10, v11, v12, v13] →
     ∀ v23 v24 v25 v26 v27 v28 v29 : Int, [v23, v24, v25, v26, v27, v28, v29] = T.out 55 7 [v0, v17, v18, v19, v20, v21, v22] →
     post [v23, v24, v25, v26, v27, v28, v29, 0] []) ∧ (decide ((0 : Int) ≤ v16) = false →
     ∀ v17 v18 v19 v20 v21 v22 : Int, [v17, v18, v19, v20, v21, v22] = T.out 56 6 [v8, v9, v10, v11, v12, v13, v1, v2, v3, v4, v5, v6] →
     ∀ v23 v24 v25 v26 v27 v28 v29 : Int, [v23, v24, v25, v26, v27, v28, v29] = T.out 55 7 [v7, v17, v18, v19, v20, v21, v22] →
     post [v23, v24, v25, v26, v27, v28, v29, 0] []))))))) ∧ (decide ((v14 : Int) = 1) = false →
  post [0, 0, 0, 0, 0, 0, 0, 1] []))
theorem q45 (T : Tab) (I : Nat → Env → Env → Prop) (M : Nat → Env → Env → Nat) (pre : Nat → List Int → List (List Int) → Prop) (post : List Int → List (List Int) → Prop) (v0 v1 v2 v3 v4 v5 v6 v7 v8 v9 v10 v11 v12 v13 : Int) : t45.plain T (presG pre I M) post ⟨[v0, v1, v2, v3, v4, v5, v6, v7, v8, v9, v10, v11, v12, v13], []⟩ = p45 T I M pre post v0 v1 v2 v3 v4 v5 v6 v7 v8 v9 v10 v11 v12 v13 := by kernel_rfl
theorem k45 (T : Tab) (I : Nat → Env → Env → Prop) (M : Nat → Env → Env → Nat) (pre : Nat → List Int → List (List Int) → Prop) (hs : SubSig T c45.sigs) (ht : TotG pre c45.sigs) (hg : T.sig 45 = some s45) (hC : CtAll Try.prog T.fns (presQ pre) c45.pfs c45.pty c45.cls c45.sigs) (hk : CpAll Try.prog c45.cps) (hi : ∀ xs ls, allHas (parIvs s45.params) xs → pre 45 xs ls → allHas iv45 xs)
    (h : ∀ (v0 v1 v2 v3 v4 v5 v6 v7 v8 v9 v10 v11 v12 v13 : Int), allHas iv45 [v0, v1, v2, v3, v4, v5, v6, v7, v8, v9, v10, v11, v12, v13] → allL (parLvs s45.params) [] → pre 45 [v0, v1, v2, v3, v4, v5, v6, v7, v8, v9, v10, v11, v12, v13] [] → p45 T I M pre (fun ys _ => ys = T.app 45 [v0, v1, v2, v3, v4, v5, v6, v7, v8, v9, v10, v11, v12, v13] []) v0 v1 v2 v3 v4 v5 v6 v7 v8 v9 v10 v11 v12 v13) : CT Try.prog T.fns (presQ pre) 45 s45 :=
  T.ctg (F := ⟨c45, []⟩) (fuel := 250) vc45 Try.checked.mixed hs ht hg hC hk Try.func45 I M (fun xs ls h1 h2 h3 => ⟨hi xs ls h1 h3, h2⟩) fun xs ls hx hl hp => by
    match xs, ls, hx, hl, hp with
    | [v0, v1, v2, v3, v4, v5, v6, v7, v8, v9, v10, v11, v12, v13], [], hx, hl, hp => rw [q45]; exact h v0 v1 v2 v3 v4 v5 v6 v7 v8 v9 v10 v11 v12 v13 hx hl hp
/-- loop.example/g01242/impl.SubWides -/
def s25 : Sig := ⟨[.val true [.b, .i .u32, .i .u32, .i .u32, .i .u32, .i .u32, .i .u32], .val true [.b, .i .u32, .i .u32, .i .u32, .i .u32, .i .u32, .i .u32]], [(true, [.b, .i .u32, .i .u32, .i .u32, .i .u32, .i .u32, .i .u32]), (false, [.i .i64])], true⟩
noncomputable def c25 : Cfg := ⟨Try.prog, [(44, s44), (45, s45)], [], [], [], [], [], [], 77, []⟩
def iv25 : List Iv := [⟨0, 1⟩, ⟨0, 4294967295⟩, ⟨0, 4294967295⟩, ⟨0, 4294967295⟩, ⟨0, 4294967295⟩, ⟨0, 4294967295⟩, ⟨0, 4294967295⟩, ⟨0, 1⟩, ⟨0, 4294967295⟩, ⟨0, 4294967295⟩, ⟨0, 4294967295⟩, ⟨0, 4294967295⟩, ⟨0, 4294967295⟩, ⟨0, 4294967295⟩]
def t25 : VC :=
 (.call 44 (.e (.var 7) (.e (.var 8) (.e (.var 9) (.e (.var 10) (.e (.var 11) (.e (.var 12) (.e (.var 13) .nil))))))) 8
 (.ite (.not (.eq (.var 21) (.lit 0)))
  (.fin (.e (.lit 0) (.e (.lit 0) (.e (.lit 0) (.e (.lit 0) (.e (.lit 0) (.e (.lit 0) (.e (.lit 0) (.e (.var 21) .nil)))))))))
  (.call 45 (.e (.var 0) (.e (.var 1) (.e (.var 2) (.e (.var 3) (.e (.var 4) (.e (.var 5) (.e (.var 6) (.e (.var 14) (.e (.var 15) (.e (.var 16) (.e (.var 17) (.e (.var 18) (.e (.var 19) (.e (.var 20) .nil)))))))))))))) 8
  (.fin (.e (.var 22) (.e (.var 23) (.e (.var 24) (.e (.var 25) (.e (.var 26) (.e (.var 27) (.e (.var 28) (.e (.var 29) .nil))))))))))))
theorem vc25 : vcOfI ⟨c25, []⟩ iv25 (parLvs s25.params) 250 Try.f25 s25 = t25 := by kernel_rfl
set_option linter.unusedVariables false in
def p25 (T : Tab) (I : Nat → Env → Env → Prop) (M : Nat → Env → Env → Nat) (pre : Nat → List Int → List (List Int) → Prop) (post : List Int → List (List Int) → Prop) (v0 v1 v2 v3 v4 v5 v6 v7 v8 v9 v10 v11 v12 v13 : Int) : Prop :=
 ∀ v14 v15 v16 v17 v18 v19 v20 v21 : Int, [v14, v15, v16, v17, v18, v19, v20, v21] = T.out 44 8 [v7, v8, v9, v10, v11, v12, v13] →
 (((!decide ((v21 : Int) = 0)) = true →
  post [0, 0, 0, 0, 0, 0, 0, v21] []) ∧ ((!decide ((v21 : Int) = 0)) = false →
  ∀ v22 v23 v24 v25 v26 v27 v28 v29 : Int, [v22, v23, v24, v25, v26, v27, v28, v29] = T.out 45 8 [v0, v1, v2, v3, v4, v5, v6, v14, v15, v16, v17, v18, v19, v20] →
  post [v22, v23, v24, v25, v26, v27, v28, v29] []))
theorem q25 (T : Tab) (I : Nat → Env → Env → Prop) (M : Nat → Env → Env → Nat) (pre : Nat → List Int → List (List Int) → Prop) (post : List Int → List (List Int) → Prop) (v0 v1 v2 v3 v4 v5 v6 v7 v8 v9 v10 v11 v12 v13 : Int) : t25.plain T (presG pre I M) post ⟨[v0, v1, v2, v3, v4, v5, v6, v7, v8, v9, v10, v11, v12, v13], []⟩ = p25 T I M pre post v0 v1 v2 v3 v4 v5 v6 v7 v8 v9 v10 v11 v12 v13 := by kernel_rfl
theorem k25 (T : Tab) (I : Nat → Env → Env → Prop) (M : Nat → Env → Env → Nat) (pre : Nat → List Int → List (List Int) → Prop) (hs : SubSig T c25.sigs) (ht : TotG pre c25.sigs) (hg : T.sig 25 = some s25) (hC : CtAll Try.prog T.fns (presQ pre) c25.pfs c25.pty c25.cls c25.sigs) (hk : CpAll Try.prog c25.cps) (hi : ∀ xs ls, allHas (parIvs s25.params) xs → pre 25 xs ls → allHas iv25 xs)
    (h : ∀ (v0 v1 v2 v3 v4 v5 v6 v7 v8 v9 v10 v11 v12 v13 : Int), allHas iv25 [v0, v1, v2, v3, v4, v5, v6, v7, v8, v9, v10, v11, v12, v13] → allL (parLvs s25.params) [] → pre 25 [v0, v1, v2, v3, v4, v5, v6, v7, v8, v9, v10, v11, v12, v13] [] → p25 T I M pre (fun ys _ => ys = T.app 25 [v0, v1, v2, v3, v4, v5, v6, v7, v8, v9, v10, v11, v12, v13] []) v0 v1 v2 v3 v4 v5 v6 v7 v8 v9 v10 v11 v12 v13) : CT Try.prog T.fns (presQ pre) 25 s25 :=
  T.ctg (F := ⟨c25, []⟩) (fuel := 250) vc25 Try.checked.mixed hs ht hg hC hk Try.func25 I M (fun xs ls h1 h2 h3 => ⟨hi xs ls h1 h3, h2⟩) fun xs ls hx hl hp => by
    match xs, ls, hx, hl, hp with
    | [v0, v1, v2, v3, v4, v5, v6, v7, v8, v9, v10, v11, v12, v13], [], hx, hl, hp => rw [q25]; exact h v0 v1 v2 v3 v4 v5 v6 v7 v8 v9 v10 v11 v12 v13 hx hl hp
/-- loop.example/g01242/impl.ShiftUp -/
def s26 : Sig := ⟨[.val true [.b, .i .u32, .i .u32, .i .u32, .i .u32, .i .u32, .i .u32], .val false [.i .i64]], [(true, [.b, .i .u32, .i .u32, .i .u32, .i .u32, .i .u32, .i .u32]), (false, [.i .i64])], true⟩
noncomputable def c26 : Cfg := ⟨Try.prog, [(21, s21), (46, s46), (47, s47), (27, s27), (48, s48)], [], [], [], [], [], [], 77, []⟩
def iv26 : List Iv := [⟨0, 1⟩, ⟨0, 4294967295⟩, ⟨0, 4294967295⟩, ⟨0, 4294967295⟩, ⟨0, 4294967295⟩, ⟨0, 4294967295⟩, ⟨0, 4294967295⟩, ⟨(-9223372036854775808), 9223372036854775807⟩]
def t26 : VC :=
 (.call 21 (.e (.var 0) (.e (.var 1) (.e (.var 2) (.e (.var 3) (.e (.var 4) (.e (.var 5) (.e (.var 6) .nil))))))) 1
 (.ite (.not (.eq (.var 8) (.lit 1)))
  (.fin (.e (.lit 0) (.e (.lit 0) (.e (.lit 0) (.e (.lit 0) (.e (.lit 0) (.e (.lit 0) (.e (.lit 0) (.e (.lit 1) .nil)))))))))
  (.ite (.le (.lit 0) (.var 7))
   (.ite (.lt (.lit 191) (.var 7))
    (.fin (.e (.lit 0) (.e (.lit 0) (.e (.lit 0) (.e (.lit 0) (.e (.lit 0) (.e (.lit 0) (.e (.lit 0) (.e (.lit 2) .nil)))))))))
    (.call 46 (.e (.var 1) (.e (.var 2) (.e (.var 3) (.e (.var 4) (.e (.var 5) (.e (.var 6) .nil)))))) 1
    (.ite (.not (.eq (.var 9) (.lit 1)))
     (.call 47 (.e (.var 1) (.e (.var 2) (.e (.var 3) (.e (.var 4) (.e (.var 5) (.e (.var 6) .nil)))))) 1
     (.bind (.ite (.lt (.lit 192) (.add (.var 10) (.var 7))) (.lit 1) (.lit 0))
     (.need [(.pre 27 (.e (.var 1) (.e (.var 2) (.e (.var 3) (.e (.var 4) (.e (.var 5) (.e (.var 6) (.e (.var 7) .nil))))))))]
     (.call 27 (.e (.var 1) (.e (.var 2) (.e (.var 3) (.e (.var 4) (.e (.var 5) (.e (.var 6) (.e (.var 7) .nil))))))) 6
     (.call 48 (.e (.var 0) (.e (.var 12) (.e (.var 13) (.e (.var 14) (.e (.var 15) (.e (.var 16) (.e (.var 17) (.e (.var 11) .nil)))))))) 8
     (.fin (.e (.var 18) (.e (.var 19) (.e (.var 20) (.e (.var 21) (.e (.var 22) (.e (.var 23) (.e (.var 24) (.e (.var 25) .nil))))))))))))))
     (.need [(.pre 27 (.e (.var 1) (.e (.var 2) (.e (.var 3) (.e (.var 4) (.e (.var 5) (.e (.var 6) (.e (.var 7) .nil))))))))]
     (.call 27 (.e (.var 1) (.e (.var 2) (.e (.var 3) (.e (.var 4) (.e (.var 5) (.e (.var 6) (.e (.var 7) .nil))))))) 6
     (.call 48 (.e (.var 0) (.e (.var 10) (.e (.var 11) (.e (.var 12) (.e (.var 13) (.e (.var 14) (.e (.var 15) (.e (.lit 0) .nil)))))))) 8
     (.fin (.e (.var 16) (.e (.var 17) (.e (.var 18) (.e (.var 19) (.e (.var 20) (.e (.var 21) (.e (.var 22) (.e (.var 23) .nil)))))))))))))))
   (.fin (.e (.lit 0) (.e (.lit 0) (.e (.lit 0) (.e (.lit 0) (.e (.lit 0) (.e (.lit 0) (.e (.lit 0) (.e (.lit 2) .nil))))))))))))
theorem vc26 : vcOfI ⟨c26, []⟩ iv26 (parLvs s26.params) 250 Try.f26 s26 = t26 := by kernel_rfl
set_option linter.unusedVariables false in
def p26 (T : Tab) (I : Nat → Env → Env → Prop) (M : Nat → Env → Env → Nat) (pre : Nat → List Int → List (List Int) → Prop) (post : List Int → List (List Int) → Prop) (v0 v1 v2 v3 v4 v5 v6 v7 : Int) : Prop :=
 ∀ v8 : Int, [v8] = T.out 21 1 [v0, v1, v2, v3, v4, v5, v6] →
 (((!decide ((v8 : Int) = 1)) = true →
  post [0, 0, 0, 0, 0, 0, 0, 1] []) ∧ ((!decide ((v8 : Int) = 1)) = false →
  ((decide ((0 : Int) ≤ v7) = true →
   ((decide ((191 : Int) < v7) = true →
    post [0, 0, 0, 0, 0, 0, 0, 2] []) ∧ (decide ((191 : Int) < v7) = false →
    ∀ v9 : Int, [v9] = T.out 46 1 [v1, v2, v3, v4, v5, v6] →
    (((!decide ((v9 : Int) = 1)) = true →
     ∀ v10 : Int, [v10] = T.out 47 1 [v1, v2, v3, v4, v5, v6] →
     ∀ v11 : Int, v11 = (if decide ((192 : Int) < (v10 + v7)) = true then 1 else 0) →
     ((pre 27 [v1, v2, v3, v4, v5, v6, v7] []) ∧ ((pre 27 [v1, v2, v3, v4, v5, v6, v7] []) →
     ∀ v12 v13 v14 v15 v16 v17 : Int, [v12, v13, v14, v15, v16, v17] = T.out 27 6 [v1, v2, v3, v4, v5, v6, v7] →
     ∀ v18 v19 v20 v21 v22 v23 v24 v25 : Int, [v18, v19, v20, v21, v22, v23, v24, v25] = T.out 48 8 [v0, v12, v13, v14, v15, v16, v17, v11] →
     post [v18, v19, v20, v21, v22, v23, v24, v25] []))) ∧ ((!decide ((v9 : Int) = 1)) = false →
     ((pre 27 [v1, v2, v3, v4, v5, v6, v7] []) ∧ ((pre 27 [v1, v2, v3, v4, v5, v6, v7] []) →
     ∀ v10 v11 v12 v13 v14 v15 : Int, [v10, v11, v12, v13, v14, v15] = T.out 27 6 [v1, v2, v3, v4, v5, v6, v7] →
     ∀ v16 v17 v18 v19 v20 v21 v22 v23 : Int, [v16, v17, v18, v19, v20, v21, v22, v23] = T.out 48 8 [v0, v10, v11, v12, v13, v14, v15, 0] →
     post [v16, v17, v18, v19, v20, v21, v22, v23] []))))))) ∧ (decide ((0 : Int) ≤ v7) = false →
   post [0, 0, 0, 0, 0, 0, 0, 2] []))))
theorem q26 (T : Tab) (I : Nat → Env → Env → Prop) (M : Nat → Env → Env → Nat) (pre : Nat → List Int → List (List Int) → Prop) (post : List Int → List (List Int) → Prop) (v0 v1 v2 v3 v4 v5 v6 v7 : Int) : t26.plain T (presG pre I M) post ⟨[v0, v1, v2, v3, v4, v5, v6, v7], []⟩ = p26 T I M pre post v0 v1 v2 v3 v4 v5 v6 v7 := by kernel_rfl
theorem k26 (T : Tab) (I : Nat → Env → Env → Prop) (M : Nat → Env → Env → Nat) (pre : Nat → List Int → List (List Int) → Prop) (hs : SubSig T c26.sigs) (ht : TotG pre c26.sigs) (hg : T.sig 26 = some s26) (hC : CtAll Try.prog T.fns (presQ pre) c26.pfs c26.pty c26.cls c26.sigs) (hk : CpAll Try.prog c26.cps) (hi : ∀ xs ls, allHas (parIvs s26.params) xs → pre 26 xs ls → allHas iv26 xs)
    (h : ∀ (v0 v1 v2 v3 v4 v5 v6 v7 : Int), allHas iv26 [v0, v1, v2, v3, v4, v5, v6, v7] → allL (parLvs s26.params) [] → pre 26 [v0, v1, v2, v3, v4, v5, v6, v7] [] → p26 T I M pre (fun ys _ => ys = T.app 26 [v0, v1, v2, v3, v4, v5, v6, v7] []) v0 v1 v2 v3 v4 v5 v6 v7) : CT Try.prog T.fns (presQ pre) 26 s26 :=
  T.ctg (F := ⟨c26, []⟩) (fuel := 250) vc26 Try.checked.mixed hs ht hg hC hk Try.func26 I M (fun xs ls h1 h2 h3 => ⟨hi xs ls h1 h3, h2⟩) fun xs ls hx hl hp => by
    match xs, ls, hx, hl, hp with
    | [v0, v1, v2, v3, v4, v5, v6, v7], [], hx, hl, hp => rw [q26]; exact h v0 v1 v2 v3 v4 v5 v6 v7 hx hl hp
/-- loop.example/g01242/impl.WideOf -/
def s52 : Sig := ⟨[.val false [.i .i64]], [(true, [.b, .i .u32, .i .u32, .i .u32, .i .u32, .i .u32, .i .u32])], true⟩
noncomputable def c52 : Cfg := ⟨Try.prog, [(55, s55)], [], [], [], [], [], [], 77, []⟩
def iv52 : List Iv := [⟨(-9223372036854775808), 9223372036854775807⟩]
def t52 : VC :=
 (.bind (.wrap .u64 (.var 0))
 (.ite (.lt (.var 0) (.lit 0))
  (.bind (.wrap .u64 (.sub (.lit 0) (.var 1)))
  (.call 55 (.e (.lit 1) (.e (.wrap .u32 (.var 2)) (.e (.div (.var 2) (.lit 4294967296)) (.e (.lit 0) (.e (.lit 0) (.e (.lit 0) (.e (.lit 0) .nil))))))) 7
  (.fin (.e (.var 3) (.e (.var 4) (.e (.var 5) (.e (.var 6) (.e (.var 7) (.e (.var 8) (.e (.var 9) .nil))))))))))
  (.call 55 (.e (.lit 0) (.e (.wrap .u32 (.var 1)) (.e (.div (.var 1) (.lit 4294967296)) (.e (.lit 0) (.e (.lit 0) (.e (.lit 0) (.e (.lit 0) .nil))))))) 7
  (.fin (.e (.var 2) (.e (.var 3) (.e (.var 4) (.e (.var 5) (.e (.var 6) (.e (.var 7) (.e (.var 8) .nil)))))))))))
theorem vc52 : vcOfI ⟨c52, []⟩ iv52 (parLvs s52.params) 250 Try.f52 s52 = t52 := by kernel_rfl
set_option linter.unusedVariables false in
def p52 (T : Tab) (I : Nat → Env → Env → Prop) (M : Nat → Env → Env → Nat) (pre : Nat → List Int → List (List Int) → Prop) (post : List Int → List (List Int) → Prop) (v0 : Int) : Prop :=
 ∀ v1 : Int, v1 = (IntKind.wrap .u64 v0) →
 ((decide ((v0 : Int) < 0) = true →
  ∀ v2 : Int, v2 = (IntKind.wrap .u64 (0 - v1)) →
  ∀ v3 v4 v5 v6 v7 v8 v9 : Int, [v3, v4, v5, v6, v7, v8, v9] = T.out 55 7 [1, (IntKind.wrap .u32 v2), (v2 / 4294967296), 0, 0, 0, 0] →
  post [v3, v4, v5, v6, v7, v8, v9] []) ∧ (decide ((v0 : Int) < 0) = false →
  ∀ v2 v3 v4 v5 v6 v7 v8 : Int, [v2, v3, v4, v5, v6, v7, v8] = T.out 55 7 [0, (IntKind.wrap .u32 v1), (v1 / 4294967296), 0, 0, 0, 0] →
  post [v2, v3, v4, v5, v6, v7, v8] []))
theorem q52 (T : Tab) (I : Nat → Env → Env → Prop) (M : Nat → Env → Env → Nat) (pre : Nat → List Int → List (List Int) → Prop) (post : List Int → List (List Int) → Prop) (v0 : Int) : t52.plain T (presG pre I M) post ⟨[v0], []⟩ = p52 T I M pre post v0 := by kernel_rfl
theorem k52 (T : Tab) (I : Nat → Env → Env → Prop) (M : Nat → Env → Env → Nat) (pre : Nat → List Int → List (List Int) → Prop) (hs : SubSig T c52.sigs) (ht : TotG pre c52.sigs) (hg : T.sig 52 = some s52) (hC : CtAll Try.prog T.fns (presQ pre) c52.pfs c52.pty c52.cls c52.sigs) (hk : CpAll Try.prog c52.cps) (hi : ∀ xs ls, allHas (parIvs s52.params) xs → pre 52 xs ls → allHas iv52 xs)
    (h : ∀ (v0 : Int), allHas iv52 [v0] → allL (parLvs s52.params) [] → pre 52 [v0] [] → p52 T I M pre (fun ys _ => ys = T.app 52 [v0] []) v0) : CT Try.prog T.fns (presQ pre) 52 s52 :=
  T.ctg (F := ⟨c52, []⟩) (fuel := 250) vc52 Try.checked.mixed hs ht hg hC hk Try.func52 I M (fun xs ls h1 h2 h3 => ⟨hi xs ls h1 h3, h2⟩) fun xs ls hx hl hp => by
    match xs, ls, hx, hl, hp with
    | [v0], [], hx, hl, hp => rw [q52]; exact h v0 hx hl hp
/-- loop.example/g01242/spec.l01Ok -/
def s13 : Sig := ⟨[.ptr [.b, .i .u32, .i .u32, .i .u32, .i .u32, .i .u32, .i .u32]], [(false, [.b])], true⟩
noncomputable def c13 : Cfg := ⟨Try.prog, [], [], [], [], [], [], [], 77, []⟩
def iv13 : List Iv := [⟨0, 1⟩, ⟨0, 4294967295⟩, ⟨0, 4294967295⟩, ⟨0, 4294967295⟩, ⟨0, 4294967295⟩, ⟨0, 4294967295⟩, ⟨0, 4294967295⟩]
def t13 : VC :=
 (.ite (.eq (.var 0) (.lit 1))
  (.bind (.ite (.not (.and (.eq (.var 1) (.lit 0)) (.and (.eq (.var 2) (.lit 0)) (.and (.eq (.var 3) (.lit 0)) (.and (.eq (.var 4) (.lit 0)) (.and (.eq (.var 5) (.lit 0)) (.eq (.var 6) (.lit 0)))))))) (.lit 1) (.lit 0))
  (.fin (.e (.var 7) .nil)))
  (.fin (.e (.lit 1) .nil)))
theorem vc13 : vcOfI ⟨c13, []⟩ iv13 (parLvs s13.params) 250 Try.f13 s13 = t13 := by kernel_rfl
set_option linter.unusedVariables false in
def p13 (T : Tab) (I : Nat → Env → Env → Prop) (M : Nat → Env → Env → Nat) (pre : Nat → List Int → List (List Int) → Prop) (post : List Int → List (List Int) → Prop) (v0 v1 v2 v3 v4 v5 v6 : Int) : Prop :=
 ((decide ((v0 : Int) = 1) = true →
  ∀ v7 : Int, v7 = (if (!(decide ((v1 : Int) = 0) && (decide ((v2 : Int) = 0) && (decide ((v3 : Int) = 0) && (decide ((v4 : Int) = 0) && (decide ((v5 : Int) = 0) && decide ((v6 : Int) = 0))))))) = true then 1 else 0) →
  post [v7] []) ∧ (decide ((v0 : Int) = 1) = false →
  post [1] []))
theorem q13 (T : Tab) (I : Nat → Env → Env → Prop) (M : Nat → Env → Env → Nat) (pre : Nat → List Int → List (List Int) → Prop) (post : List Int → List (List Int) → Prop) (v0 v1 v2 v3 v4 v5 v6 : Int) : t13.plain T (presG pre I M) post ⟨[v0, v1, v2, v3, v4, v5, v6], []⟩ = p13 T I M pre post v0 v1 v2 v3 v4 v5 v6 := by kernel_rfl
theorem k13 (T : Tab) (I : Nat → Env → Env → Prop) (M : Nat → Env → Env → Nat) (pre : Nat → List Int → List (List Int) → Prop) (hs : SubSig T c13.sigs) (ht : TotG pre c13.sigs) (hg : T.sig 13 = some s13) (hC : CtAll Try.prog T.fns (presQ pre) c13.pfs c13.pty c13.cls c13.sigs) (hk : CpAll Try.prog c13.cps) (hi : ∀ xs ls, allHas (parIvs s13.params) xs → pre 13 xs ls → allHas iv13 xs)
    (h : ∀ (v0 v1 v2 v3 v4 v5 v6 : Int), allHas iv13 [v0, v1, v2, v3, v4, v5, v6] → allL (parLvs s13.params) [] → pre 13 [v0, v1, v2, v3, v4, v5, v6] [] → p13 T I M pre (fun ys _ => ys = T.app 13 [v0, v1, v2, v3, v4, v5, v6] []) v0 v1 v2 v3 v4 v5 v6) : CT Try.prog T.fns (presQ pre) 13 s13 :=
  T.ctg (F := ⟨c13, []⟩) (fuel := 250) vc13 Try.checked.mixed hs ht hg hC hk Try.func13 I M (fun xs ls h1 h2 h3 => ⟨hi xs ls h1 h3, h2⟩) fun xs ls hx hl hp => by
    match xs, ls, hx, hl, hp with
    | [v0, v1, v2, v3, v4, v5, v6], [], hx, hl, hp => rw [q13]; exact h v0 v1 v2 v3 v4 v5 v6 hx hl hp
/-- loop.example/g01242/spec.l01Made -/
def s39 : Sig := ⟨[.val false [.b], .val true [.i .u32, .i .u32, .i .u32, .i .u32, .i .u32, .i .u32]], [(true, [.b, .i .u32, .i .u32, .i .u32, .i .u32, .i .u32, .i .u32])], true⟩
noncomputable def c39 : Cfg := ⟨Try.prog, [(54, s54)], [], [], [], [], [], [], 77, []⟩
def iv39 : List Iv := [⟨0, 1⟩, ⟨0, 4294967295⟩, ⟨0, 4294967295⟩, ⟨0, 4294967295⟩, ⟨0, 4294967295⟩, ⟨0, 4294967295⟩, ⟨0, 4294967295⟩]
def t39 : VC :=
 (.ite (.eq (.var 0) (.lit 1))
  (.call 54 (.e (.var 1) (.e (.var 2) (.e (.var 3) (.e (.var 4) (.e (.var 5) (.e (.var 6) .nil)))))) 1
  (.fin (.e (.ite (.not (.eq (.var 7) (.lit 1))) (.lit 1) (.lit 0)) (.e (.var 1) (.e (.var 2) (.e (.var 3) (.e (.var 4) (.e (.var 5) (.e (.var 6) .nil)))))))))
  (.fin (.e (.lit 0) (.e (.var 1) (.e (.var 2) (.e (.var 3) (.e (.var 4) (.e (.var 5) (.e (.var 6) .nil)))))))))
theorem vc39 : vcOfI ⟨c39, []⟩ iv39 (parLvs s39.params) 250 Try.f39 s39 = t39 := by kernel_rfl
set_option linter.unusedVariables false in
def p39 (T : Tab) (I : Nat → Env → Env → Prop) (M : Nat → Env → Env → Nat) (pre : Nat → List Int → List (List Int) → Prop) (post : List Int → List (List Int) → Prop) (v0 v1 v2 v3 v4 v5 v6 : Int) : Prop :=
 ((decide ((v0 : Int) = 1) = true →
  ∀ v7 : Int, [v7] = T.out 54 1 [v1, v2, v3, v4, v5, v6] →
  post [(if (!decide ((v7 : Int) = 1)) = true then 1 else 0), v1, v2, v3, v4, v5, v6] []) ∧ (decide ((v0 : Int) = 1) = false →
  post [0, v1, v2, v3, v4, v5, v6] []))
theorem q39 (T : Tab) (I : Nat → Env → Env → Prop) (M : Nat → Env → Env → Nat) (pre : Nat → List Int → List (List Int) → Prop) (post : List Int → List (List Int) → Prop) (v0 v1 v2 v3 v4 v5 v6 : Int) : t39.plain T (presG pre I M) post ⟨[v0, v1, v2, v3, v4, v5, v6], []⟩ = p39 T I M pre post v0 v1 v2 v3 v4 v5 v6 := by kernel_rfl
theorem k39 (T : Tab) (I : Nat → Env → Env → Prop) (M : Nat → Env → Env → Nat) (pre : Nat → List Int → List (List Int) → Prop) (hs : SubSig T c39.sigs) (ht : TotG pre c39.sigs) (hg : T.sig 39 = some s39) (hC : CtAll Try.prog T.fns (presQ pre) c39.pfs c39.pty c39.cls c39.sigs) (hk : CpAll Try.prog c39.cps) (hi : ∀ xs ls, allHas (parIvs s39.params) xs → pre 39 xs ls → allHas iv39 xs)
    (h : ∀ (v0 v1 v2 v3 v4 v5 v6 : Int), allHas iv39 [v0, v1, v2, v3, v4, v5, v6] → allL (parLvs s39.params) [] → pre 39 [v0, v1, v2, v3, v4, v5, v6] [] → p39 T I M pre (fun ys _ => ys = T.app 39 [v0, v1, v2, v3, v4, v5, v6] []) v0 v1 v2 v3 v4 v5 v6) : CT Try.prog T.fns (presQ pre) 39 s39 :=
  T.ctg (F := ⟨c39, []⟩) (fuel := 250) vc39 Try.checked.mixed hs ht hg hC hk Try.func39 I M (fun xs ls h1 h2 h3 => ⟨hi xs ls h1 h3, h2⟩) fun xs ls hx hl hp => by
    match xs, ls, hx, hl, hp with
    | [v0, v1, v2, v3, v4, v5, v6], [], hx, hl, hp => rw [q39]; exact h v0 v1 v2 v3 v4 v5 v6 hx hl hp
/-- loop.example/g01242/spec.l01Neg -/
def s17 : Sig := ⟨[.val true [.b, .i .u32, .i .u32, .i .u32, .i .u32, .i .u32, .i .u32]], [(true, [.b, .i .u32, .i .u32, .i .u32, .i .u32, .i .u32, .i .u32])], true⟩
noncomputable def c17 : Cfg := ⟨Try.prog, [(39, s39)], [], [], [], [], [], [], 77, []⟩
def iv17 : List Iv := [⟨0, 1⟩, ⟨0, 4294967295⟩, ⟨0, 4294967295⟩, ⟨0, 4294967295⟩, ⟨0, 4294967295⟩, ⟨0, 4294967295⟩, ⟨0, 4294967295⟩]
def t17 : VC :=
 (.call 39 (.e (.ite (.not (.eq (.var 0) (.lit 1))) (.lit 1) (.lit 0)) (.e (.var 1) (.e (.var 2) (.e (.var 3) (.e (.var 4) (.e (.var 5) (.e (.var 6) .nil))))))) 7
 (.fin (.e (.var 7) (.e (.var 8) (.e (.var 9) (.e (.var 10) (.e (.var 11) (.e (.var 12) (.e (.var 13) .nil)))))))))
theorem vc17 : vcOfI ⟨c17, []⟩ iv17 (parLvs s17.params) 250 Try.f17 s17 = t17 := by kernel_rfl
set_option linter.unusedVariables false in
def p17 (T : Tab) (I : Nat → Env → Env → Prop) (M : Nat → Env → Env → Nat) (pre : Nat → List Int → List (List Int) → Prop) (post : List Int → List (List Int) → Prop) (v0 v1 v2 v3 v4 v5 v6 : Int) : Prop :=
 ∀ v7 v8 v9 v10 v11 v12 v13 : Int, [v7, v8, v9, v10, v11, v12, v13] = T.out 39 7 [(if (!decide ((v0 : Int) = 1)) = true then 1 else 0), v1, v2, v3, v4, v5, v6] →
 post [v7, v8, v9, v10, v11, v12, v13] []
theorem q17 (T : Tab) (I : Nat → Env → Env → Prop) (M : Nat → Env → Env → Nat) (pre : Nat → List Int → List (List Int) → Prop) (post : List Int → List (List Int) → Prop) (v0 v1 v2 v3 v4 v5 v6 : Int) : t17.plain T (presG pre I M) post ⟨[v0, v1, v2, v3, v4, v5, v6], []⟩ = p17 T I M pre post v0 v1 v2 v3 v4 v5 v6 := by kernel_rfl
theorem k17 (T : Tab) (I : Nat → Env → Env → Prop) (M : Nat → Env → Env → Nat) (pre : Nat → List Int → List (List Int) → Prop) (hs : SubSig T c17.sigs) (ht : TotG pre c17.sigs) (hg : T.sig 17 = some s17) (hC : CtAll Try.prog T.fns (presQ pre) c17.pfs c17.pty c17.cls c17.sigs) (hk : CpAll Try.prog c17.cps) (hi : ∀ xs ls, allHas (parIvs s17.params) xs → pre 17 xs ls → allHas iv17 xs)
    (h : ∀ (v0 v1 v2 v3 v4 v5 v6 : Int), allHas iv17 [v0, v1, v2, v3, v4, v5, v6] → allL (parLvs s17.params) [] → pre 17 [v0, v1, v2, v3, v4, v5, v6] [] → p17 T I M pre (fun ys _ => ys = T.app 17 [v0, v1, v2, v3, v4, v5, v6] []) v0 v1 v2 v3 v4 v5 v6) : CT Try.prog T.fns (presQ pre) 17 s17 :=
  T.ctg (F := ⟨c17, []⟩) (fuel := 250) vc17 Try.checked.mixed hs ht hg hC hk Try.func17 I M (fun xs ls h1 h2 h3 => ⟨hi xs ls h1 h3, h2⟩) fun xs ls hx hl hp => by
    match xs, ls, hx, hl, hp with
    | [v0, v1, v2, v3, v4, v5, v6], [], hx, hl, hp => rw [q17]; exact h v0 v1 v2 v3 v4 v5 v6 hx hl hp
/-- loop.example/g01242/spec.l01Add -/
def s16 : Sig := ⟨[.val true [.b, .i .u32, .i .u32, .i .u32, .i .u32, .i .u32, .i .u32], .val true [.b, .i .u32, .i .u32, .i .u32, .i .u32, .i .u32, .i .u32]], [(true, [.b, .i .u32, .i .u32, .i .u32, .i .u32, .i .u32, .i .u32]), (false, [.i .i64])], true⟩
noncomputable def c16 : Cfg := ⟨Try.prog, [(40, s40), (39, s39), (41, s41), (42, s42)], [], [], [], [], [], [], 77, []⟩
def iv16 : List Iv := [⟨0, 1⟩, ⟨0, 4294967295⟩, ⟨0, 4294967295⟩, ⟨0, 4294967295⟩, ⟨0, 4294967295⟩, ⟨0, 4294967295⟩, ⟨0, 4294967295⟩, ⟨0, 1⟩, ⟨0, 4294967295⟩, ⟨0, 4294967295⟩, ⟨0, 4294967295⟩, ⟨0, 4294967295⟩, ⟨0, 4294967295⟩, ⟨0, 4294967295⟩]
def t16 : VC :=
 (.ite (.beq (.eq (.var 0) (.lit 1)) (.eq (.var 7) (.lit 1)))
  (.call 40 (.e (.var 1) (.e (.var 2) (.e (.var 3) (.e (.var 4) (.e (.var 5) (.e (.var 6) (.e (.var 8) (.e (.var 9) (.e (.var 10) (.e (.var 11) (.e (.var 12) (.e (.var 13) .nil)))))))))))) 7
  (.ite (.not (.eq (.var 20) (.lit 1)))
   (.fin (.e (.lit 0) (.e (.lit 0) (.e (.lit 0) (.e (.lit 0) (.e (.lit 0) (.e (.lit 0) (.e (.lit 0) (.e (.lit 3) .nil)))))))))
   (.call 39 (.e (.var 0) (.e (.var 14) (.e (.var 15) (.e (.var 16) (.e (.var 17) (.e (.var 18) (.e (.var 19) .nil))))))) 7
   (.fin (.e (.var 21) (.e (.var 22) (.e (.var 23) (.e (.var 24) (.e (.var 25) (.e (.var 26) (.e (.var 27) (.e (.lit 0) .nil))))))))))))
  (.call 41 (.e (.var 1) (.e (.var 2) (.e (.var 3) (.e (.var 4) (.e (.var 5) (.e (.var 6) (.e (.var 8) (.e (.var 9) (.e (.var 10) (.e (.var 11) (.e (.var 12) (.e (.var 13) .nil)))))))))))) 1
  (.ite (.le (.lit 0) (.var 14))
   (.call 42 (.e (.var 1) (.e (.var 2) (.e (.var 3) (.e (.var 4) (.e (.var 5) (.e (.var 6) (.e (.var 8) (.e (.var 9) (.e (.var 10) (.e (.var 11) (.e (.var 12) (.e (.var 13) .nil)))))))))))) 6
   (.call 39 (.e (.var 0) (.e (.var 15) (.e (.var 16) (.e (.var 17) (.e (.var 18) (.e (.var 19) (.e (.var 20) .nil))))))) 7
   (.fin (.e (.var 21) (.e (.var 22) (.e (.var 23) (.e (.var 24) (.e (.var 25) (.e (.var 26) (.e (.var 27) (.e (.lit 0) .nil)))))))))))
   (.call 42 (.e (.var 8) (.e (.var 9) (.e (.var 10) (.e (.var 11) (.e (.var 12) (.e (.var 13) (.e (.var 1) (.e (.var 2) (.e (.var 3) (.e (.var 4) (.e (.var 5) (.e (.var 6) .nil)))))))))))) 6
   (.call 39 (.e (.var 7) (.e (.var 15) (.e (.var 16) (.e (.var 17) (.e (.var 18) (.e (.var 19) (.e (.var 20) .nil))))))) 7
   (.fin (.e (.var 21) (.e (.var 22) (.e (.var 23) (.e (.var 24) (.e (.var 25) (.e (.var 26) (.e (.var 27) (.e (.lit 0) .nil))))))))))))))
theorem vc16 : vcOfI ⟨c16, []⟩ iv16 (parLvs s16.params) 250 Try.f16 s16 = t16 := by kernel_rfl
set_option linter.unusedVariables false in
def p16 (T : Tab) (I : Nat → Env → Env → Prop) (M : Nat → Env → Env → Nat) (pre : Nat → List Int → List (List Int) → Prop) (post : List Int → List (List Int) → Prop) (v0 v1 v2 v3 v4 v5 v6 v7 v8 v9 v10 v11 v12 v13 : Int) : Prop :=
 (((decide ((v0 : Int) = 1) == decide ((v7 : Int) = 1)) = true →
  ∀ v14 v15 v16 v17 v18 v19 v20 : Int, [v14, v15, v16, v17, v18, v19, v20] = T.out 40 7 [v1, v2, v3, v4, v5, v6, v8, v9, v10, v11, v12, v13] →
  (((!decide ((v20 : Int) = 1)) = true →
   post [0, 0, 0, 0, 0, 0, 0, 3] []) ∧ ((!decide ((v20 : Int) = 1)) = false →
   ∀ v21 v22 v23 v24 v25 v26 v27 : Int, [v21, v22, v23, v24, v25, v26, v27] = T.out 39 7 [v0, v14, v15, v16, v17, v18, v19] →
   post [v21, v22, v23, v24, v25, v26, v27, 0] []))) ∧ ((decide ((v0 : Int) = 1) == decide ((v7 : Int) = 1)) = false →
  ∀ v14 : Int, [v14] = T.out 41 1 [v1, v2, v3, v4, v5, v6, v8, v9, v10, v11, v12, v13] →
  ((decide ((0 : Int) ≤ v14) = true →
   ∀ v15 v16 v17 v18 v19 v20 : Int, [v15, v16, v17, v18, v19, v20] = T.out 42 6 [v1, v2, v3, v4, v5, v6, v8, v9, v10, v11, v12, v13] →
   ∀ v21 v22 v23 v24 v25 v26 v27 : Int, [v21, v22, v23, v24, v25, v26, v27] = T.out 39 7 [v0, v15, v16, v17, v18, v19, v20] →
   post [v21, v22, v23, v24, v25, v26, v27, 0] []) ∧ (decide ((0 : Int) ≤ v14) = false →
   ∀ v15 v16 v17 v18 v19 v20 : Int, [v15, v16, v17, v18, v19, v20] = T.out 42 6 [v8, v9, v10, v11, v12, v13, v1, v2, v3, v4, v5, v6] →
   ∀ v21 v22 v23 v24 v25 v26 v27 : Int, [v21, v22, v23, v24, v25, v26, v27] = T.out 39 7 [v7, v15, v16, v17, v18, v19, v20] →
   post [v21, v22, v23, v24, v25, v26, v27, 0] []))))
theorem q16 (T : Tab) (I : Nat → Env → Env → Prop) (M : Nat → Env → Env → Nat) (pre : Nat → List Int → List (List Int) → Prop) (post : List Int → List (List Int) → Prop) (v0 v1 v2 v3 v4 v5 v6 v7 v8 v9 v10 v11 v12 v13 : Int) : t16.plain T (presG pre I M) post ⟨[v0, v1, v2, v3, v4, v5, v6, v7, v8, v9, v10, v11, v12, v13], []⟩ = p16 T I M pre post v0 v1 v2 v3 v4 v5 v6 v7 v8 v9 v10 v11 v12 v13 := by kernel_rfl
theorem k16 (T : Tab) (I : Nat → Env → Env → Prop) (M : Nat → Env → Env → Nat) (pre : Nat → List Int → List (List Int) → Prop) (hs : SubSig T c16.sigs) (ht : TotG pre c16.sigs) (hg : T.sig 16 = some s16) (hC : CtAll Try.prog T.fns (presQ pre) c16.pfs c16.pty c16.cls c16.sigs) (hk : CpAll Try.prog c16.cps) (hi : ∀ xs ls, allHas (parIvs s16.params) xs → pre 16 xs ls → allHas iv16 xs)
    (h : ∀ (v0 v1 v2 v3 v4 v5 v6 v7 v8 v9 v10 v11 v12 v13 : Int), allHas iv16 [v0, v1, v2, v3, v4, v5, v6, v7, v8, v9, v10, v11, v12, v13] → allL (parLvs s16.params) [] → pre 16 [v0, v1, v2, v3, v4, v5, v6, v7, v8, v9, v10, v11, v12, v13] [] → p16 T I M pre (fun ys _ => ys = T.app 16 [v0, v1, v2, v3, v4, v5, v6, v7, v8, v9, v10, v11, v12, v13] []) v0 v1 v2 v3 v4 v5 v6 v7 v8 v9 v10 v11 v12 v13) : CT Try.prog T.fns (presQ pre) 16 s16 :=
  T.ctg (F := ⟨c16, []⟩) (fuel := 250) vc16 Try.checked.mixed hs ht hg hC hk Try.func16 I M (fun xs ls h1 h2 h3 => ⟨hi xs ls h1 h3, h2⟩) fun xs ls hx hl hp => by
    match xs, ls, hx, hl, hp with
    | [v0, v1, v2, v3, v4, v5, v6, v7, v8, v9, v10, v11, v12, v13], [], hx, hl, hp => rw [q16]; exact h v0 v1 v2 v3 v4 v5 v6 v7 v8 v9 v10 v11 v12 v13 hx hl hp
/-- loop.example/g01242/spec.l01Of -/
def s18 : Sig := ⟨[.val false [.i .i64]], [(true, [.b, .i .u32, .i .u32, .i .u32, .i .u32, .i .u32, .i .u32])], true⟩
noncomputable def c18 : Cfg := ⟨Try.prog, [(39, s39)], [], [], [], [], [], [], 77, []⟩
def iv18 : List Iv := [⟨(-9223372036854775808), 9223372036854775807⟩]
def t18 : VC :=
 (.bind (.wrap .u64 (.var 0))
 (.ite (.lt (.var 0) (.lit 0))
  (.bind (.wrap .u64 (.sub (.lit 0) (.var 1)))
  (.bind (.wrap .u32 (.var 2))
  (.bind (.div (.var 2) (.lit 4294967296))
  (.call 39 (.e (.lit 1) (.e (.var 3) (.e (.var 4) (.e (.lit 0) (.e (.lit 0) (.e (.lit 0) (.e (.lit 0) .nil))))))) 7
  (.fin (.e (.var 5) (.e (.var 6) (.e (.var 7) (.e (.var 8) (.e (.var 9) (.e (.var 10) (.e (.var 11) .nil))))))))))))
  (.bind (.wrap .u32 (.var 1))
  (.bind (.div (.var 1) (.lit 4294967296))
  (.call 39 (.e (.lit 0) (.e (.var 2) (.e (.var 3) (.e (.lit 0) (.e (.lit 0) (.e (.lit 0) (.e (.lit 0) .nil))))))) 7
  (.fin (.e (.var 4) (.e (.var 5) (.e (.var 6) (.e (.var 7) (.e (.var 8) (.e (.var 9) (.e (.var 10) .nil)))))))))))))
theorem vc18 : vcOfI ⟨c18, []⟩ iv18 (parLvs s18.params) 250 Try.f18 s18 = t18 := by kernel_rfl
set_option linter.unusedVariables false in
def p18 (T : Tab) (I : Nat → Env → Env → Prop) (M : Nat → Env → Env → Nat) (pre : Nat → List Int → List (List Int) → Prop) (post : List Int → List (List Int) → Prop) (v0 : Int) : Prop :=
 ∀ v1 : Int, v1 = (IntKind.wrap .u64 v0) →
 ((decide ((v0 : Int) < 0) = true →
  ∀ v2 : Int, v2 = (IntKind.wrap .u64 (0 - v1)) →
  ∀ v3 : Int, v3 = (IntKind.wrap .u32 v2) →
  ∀ v4 : Int, v4 = (v2 / 4294967296) →
  ∀ v5 v6 v7 v8 v9 v10 v11 : Int, [v5, v6, v7, v8, v9, v10, v11] = T.out 39 7 [1, v3, v4, 0, 0, 0, 0] →
  post [v5, v6, v7, v8, v9, v10, v11] []) ∧ (decide ((v0 : Int) < 0) = false →
  ∀ v2 : Int, v2 = (IntKind.wrap .u32 v1) →
  ∀ v3 : Int, v3 = (v1 / 4294967296) →
  ∀ v4 v5 v6 v7 v8 v9 v10 : Int, [v4, v5, v6, v7, v8, v9, v10] = T.out 39 7 [0, v2, v3, 0, 0, 0, 0] →
  post [v4, v5, v6, v7, v8, v9, v10] []))
theorem q18 (T : Tab) (I : Nat → Env → Env → Prop) (M : Nat → Env → Env → Nat) (pre : Nat → List Int → List (List Int) → Prop) (post : List Int → List (List Int) → Prop) (v0 : Int) : t18.plain T (presG pre I M) post ⟨[v0], []⟩ = p18 T I M pre post v0 := by kernel_rfl
theorem k18 (T : Tab) (I : Nat → Env → Env → Prop) (M : Nat → Env → Env → Nat) (pre : Nat → List Int → List (List Int) → Prop) (hs : SubSig T c18.sigs) (ht : TotG pre c18.sigs) (hg : T.sig 18 = some s18) (hC : CtAll Try.prog T.fns (presQ pre) c18.pfs c18.pty c18.cls c18.sigs) (hk : CpAll Try.prog c18.cps) (hi : ∀ xs ls, allHas (parIvs s18.params) xs → pre 18 xs ls → allHas iv18 xs)
    (h : ∀ (v0 : Int), allHas iv18 [v0] → allL (parLvs s18.params) [] → pre 18 [v0] [] → p18 T I M pre (fun ys _ => ys = T.app 18 [v0] []) v0) : CT Try.prog T.fns (presQ pre) 18 s18 :=
  T.ctg (F := ⟨c18, []⟩) (fuel := 250) vc18 Try.checked.mixed hs ht hg hC hk Try.func18 I M (fun xs ls h1 h2 h3 => ⟨hi xs ls h1 h3, h2⟩) fun xs ls hx hl hp => by
    match xs, ls, hx, hl, hp with
    | [v0], [], hx, hl, hp => rw [q18]; exact h v0 hx hl hp
/-- loop.example/g01242/spec.l01Up -/
def s15 : Sig := ⟨[.val true [.b, .i .u32, .i .u32, .i .u32, .i .u32, .i .u32, .i .u32], .val false [.i .i64]], [(true, [.b, .i .u32, .i .u32, .i .u32, .i .u32, .i .u32, .i .u32]), (false, [.i .i64])], false⟩
noncomputable def c15 : Cfg := ⟨Try.prog, [(38, s38), (39, s39)], [], [], [], [], [], [], 77, []⟩
def iv15 : List Iv := [⟨0, 1⟩, ⟨0, 4294967295⟩, ⟨0, 4294967295⟩, ⟨0, 4294967295⟩, ⟨0, 4294967295⟩, ⟨0, 4294967295⟩, ⟨0, 4294967295⟩, ⟨0, 191⟩]
def t15 : VC :=
 (.need [(.pre 38 (.e (.var 1) (.e (.var 2) (.e (.var 3) (.e (.var 4) (.e (.var 5) (.e (.var 6) (.e (.var 7) .nil))))))))]
 (.call 38 (.e (.var 1) (.e (.var 2) (.e (.var 3) (.e (.var 4) (.e (.var 5) (.e (.var 6) (.e (.var 7) .nil))))))) 7
 (.ite (.not (.eq (.var 14) (.lit 1)))
  (.fin (.e (.lit 0) (.e (.lit 0) (.e (.lit 0) (.e (.lit 0) (.e (.lit 0) (.e (.lit 0) (.e (.lit 0) (.e (.lit 3) .nil)))))))))
  (.call 39 (.e (.var 0) (.e (.var 8) (.e (.var 9) (.e (.var 10) (.e (.var 11) (.e (.var 12) (.e (.var 13) .nil))))))) 7
  (.fin (.e (.var 15) (.e (.var 16) (.e (.var 17) (.e (.var 18) (.e (.var 19) (.e (.var 20) (.e (.var 21) (.e (.lit 0) .nil)))))))))))))
theorem vc15 : vcOfI ⟨c15, []⟩ iv15 (parLvs s15.params) 250 Try.f15 s15 = t15 := by kernel_rfl
set_option linter.unusedVariables false in
def p15 (T : Tab) (I : Nat → Env → Env → Prop) (M : Nat → Env → Env → Nat) (pre : Nat → List Int → List (List Int) → Prop) (post : List Int → List (List Int) → Prop) (v0 v1 v2 v3 v4 v5 v6 v7 : Int) : Prop :=
 ((pre 38 [v1, v2, v3, v4, v5, v6, v7] []) ∧ ((pre 38 [v1, v2, v3, v4, v5, v6, v7] []) →
 ∀ v8 v9 v10 v11 v12 v13 v14 : Int, [v8, v9, v10, v11, v12, v13, v14] = T.out 38 7 [v1, v2, v3, v4, v5, v6, v7] →
 (((!decide ((v14 : Int) = 1)) = true →
  post [0, 0, 0, 0, 0, 0, 0, 3] []) ∧ ((!decide ((v14 : Int) = 1)) = false →
  ∀ v15 v16 v17 v18 v19 v20 v21 : Int, [v15, v16, v17, v18, v19, v20, v21] = T.out 39 7 [v0, v8, v9, v10, v11, v12, v13] →
  post [v15, v16, v17, v18, v19, v20, v21, 0] []))))
theorem q15 (T : Tab) (I : Nat → Env → Env → Prop) (M : Nat → Env → Env → Nat) (pre : Nat → List Int → List (List Int) → Prop) (post : List Int → List (List Int) → Prop) (v0 v1 v2 v3 v4 v5 v6 v7 : Int) : t15.plain T (presG pre I M) post ⟨[v0, v1, v2, v3, v4, v5, v6, v7], []⟩ = p15 T I M pre post v0 v1 v2 v3 v4 v5 v6 v7 := by kernel_rfl
theorem k15 (T : Tab) (I : Nat → Env → Env → Prop) (M : Nat → Env → Env → Nat) (pre : Nat → List Int → List (List Int) → Prop) (hs : SubSig T c15.sigs) (ht : TotG pre c15.sigs) (hg : T.sig 15 = some s15) (hC : CtAll Try.prog T.fns (presQ pre) c15.pfs c15.pty c15.cls c15.sigs) (hk : CpAll Try.prog c15.cps) (hi : ∀ xs ls, allHas (parIvs s15.params) xs → pre 15 xs ls → allHas iv15 xs)
    (h : ∀ (v0 v1 v2 v3 v4 v5 v6 v7 : Int), allHas iv15 [v0, v1, v2, v3, v4, v5, v6, v7] → allL (parLvs s15.params) [] → pre 15 [v0, v1, v2, v3, v4, v5, v6, v7] [] → p15 T I M pre (fun ys _ => ys = T.app 15 [v0, v1, v2, v3, v4, v5, v6, v7] []) v0 v1 v2 v3 v4 v5 v6 v7) : CT Try.prog T.fns (presQ pre) 15 s15 :=
  T.ctg (F := ⟨c15, []⟩) (fuel := 250) vc15 Try.checked.mixed hs ht hg hC hk Try.func15 I M (fun xs ls h1 h2 h3 => ⟨hi xs ls h1 h3, h2⟩) fun xs ls hx hl hp => by
    match xs, ls, hx, hl, hp with
    | [v0, v1, v2, v3, v4, v5, v6, v7], [], hx, hl, hp => rw [q15]; exact h v0 v1 v2 v3 v4 v5 v6 v7 hx hl hp
/-- loop.example/g01242/spec.l01Compare -/
def s19 : Sig := ⟨[.ptr [.b, .i .u32, .i .u32, .i .u32, .i .u32, .i .u32, .i .u32], .ptr [.b, .i .u32, .i .u32, .i .u32, .i .u32, .i .u32, .i .u32]], [(false, [.n .i64 (-1) 1])], true⟩
noncomputable def c19 : Cfg := ⟨Try.prog, [(41, s41)], [], [], [], [], [], [], 77, []⟩
def iv19 : List Iv := [⟨0, 1⟩, ⟨0, 4294967295⟩, ⟨0, 4294967295⟩, ⟨0, 4294967295⟩, ⟨0, 4294967295⟩, ⟨0, 4294967295⟩, ⟨0, 4294967295⟩, ⟨0, 1⟩, ⟨0, 4294967295⟩, ⟨0, 4294967295⟩, ⟨0, 4294967295⟩, ⟨0, 4294967295⟩, ⟨0, 4294967295⟩, ⟨0, 4294967295⟩]
def t19 : VC :=
 (.ite (.eq (.var 0) (.lit 1))
  (.ite (.not (.eq (.var 7) (.lit 1)))
   (.fin (.e (.lit (-1)) .nil))
   (.call 41 (.e (.var 8) (.e (.var 9) (.e (.var 10) (.e (.var 11) (.e (.var 12) (.e (.var 13) (.e (.var 1) (.e (.var 2) (.e (.var 3) (.e (.var 4) (.e (.var 5) (.e (.var 6) .nil)))))))))))) 1
   (.fin (.e (.var 14) .nil))))
  (.ite (.eq (.var 7) (.lit 1))
   (.fin (.e (.lit 1) .nil))
   (.call 41 (.e (.var 1) (.e (.var 2) (.e (.var 3) (.e (.var 4) (.e (.var 5) (.e (.var 6) (.e (.var 8) (.e (.var 9) (.e (.var 10) (.e (.var 11) (.e (.var 12) (.e (.var 13) .nil)))))))))))) 1
   (.fin (.e (.var 14) .nil)))))
theorem vc19 : vcOfI ⟨c19, []⟩ iv19 (parLvs s19.params) 250 Try.f19 s19 = t19 := by kernel_rfl
set_option linter.unusedVariables false in
def p19 (T : Tab) (I : Nat → Env → Env → Prop) (M : Nat → Env → Env → Nat) (pre : Nat → List Int → List (List Int) → Prop) (post : List Int → List (List Int) → Prop) (v0 v1 v2 v3 v4 v5 v6 v7 v8 v9 v10 v11 v12 v13 : Int) : Prop :=
 ((decide ((v0 : Int) = 1) = true →
  (((!decide ((v7 : Int) = 1)) = true →
   post [(-1)] []) ∧ ((!decide ((v7 : Int) = 1)) = false →
   ∀ v14 : Int, [v14] = T.out 41 1 [v8, v9, v10, v11, v12, v13, v1, v2, v3, v4, v5, v6] →
   post [v14] []))) ∧ (decide ((v0 : Int) = 1) = false →
  ((decide ((v7 : Int) = 1) = true →
   post [1] []) ∧ (decide ((v7 : Int) = 1) = false →
   ∀ v14 : Int, [v14] = T.out 41 1 [v1, v2, v3, v4, v5, v6, v8, v9, v10, v11, v12, v13] →
   post [v14] []))))
theorem q19 (T : Tab) (I : Nat → Env → Env → Prop) (M : Nat → Env → Env → Nat) (pre : Nat → List Int → List (List Int) → Prop) (post : List Int → List (List Int) → Prop) (v0 v1 v2 v3 v4 v5 v6 v7 v8 v9 v10 v11 v12 v13 : Int) : t19.plain T (presG pre I M) post ⟨[v0, v1, v2, v3, v4, v5, v6, v7, v8, v9, v10, v11, v12, v13], []⟩ = p19 T I M pre post v0 v1 v2 v3 v4 v5 v6 v7 v8 v9 v10 v11 v12 v13 := by kernel_rfl
theorem k19 (T : Tab) (I : Nat → Env → Env → Prop) (M : Nat → Env → Env → Nat) (pre : Nat → List Int → List (List Int) → Prop) (hs : SubSig T c19.sigs) (ht : TotG pre c19.sigs) (hg : T.sig 19 = some s19) (hC : CtAll Try.prog T.fns (presQ pre) c19.pfs c19.pty c19.cls c19.sigs) (hk : CpAll Try.prog c19.cps) (hi : ∀ xs ls, allHas (parIvs s19.params) xs → pre 19 xs ls → allHas iv19 xs)
    (h : ∀ (v0 v1 v2 v3 v4 v5 v6 v7 v8 v9 v10 v11 v12 v13 : Int), allHas iv19 [v0, v1, v2, v3, v4, v5, v6, v7, v8, v9, v10, v11, v12, v13] → allL (parLvs s19.params) [] → pre 19 [v0, v1, v2, v3, v4, v5, v6, v7, v8, v9, v10, v11, v12, v13] [] → p19 T I M pre (fun ys _ => ys = T.app 19 [v0, v1, v2, v3, v4, v5, v6, v7, v8, v9, v10, v11, v12, v13] []) v0 v1 v2 v3 v4 v5 v6 v7 v8 v9 v10 v11 v12 v13) : CT Try.prog T.fns (presQ pre) 19 s19 :=
  T.ctg (F := ⟨c19, []⟩) (fuel := 250) vc19 Try.checked.mixed hs ht hg hC hk Try.func19 I M (fun xs ls h1 h2 h3 => ⟨hi xs ls h1 h3, h2⟩) fun xs ls hx hl hp => by
    match xs, ls, hx, hl, hp with
    | [v0, v1, v2, v3, v4, v5, v6, v7, v8, v9, v10, v11, v12, v13], [], hx, hl, hp => rw [q19]; exact h v0 v1 v2 v3 v4 v5 v6 v7 v8 v9 v10 v11 v12 v13 hx hl hp
/-- loop.example/g01242/impl.need -/
def s24 : Sig := ⟨[.val true [.b, .i .u32, .i .u32, .i .u32, .i .u32, .i .u32, .i .u32], .val false [.i .i64]], [(false, [.i .i64]), (true, [.b, .i .u32, .i .u32, .i .u32, .i .u32, .i .u32, .i .u32])], true⟩
noncomputable def c24 : Cfg := ⟨Try.prog, [], [], [], [], [], [], [], 77, []⟩
def iv24 : List Iv := [⟨0, 1⟩, ⟨0, 4294967295⟩, ⟨0, 4294967295⟩, ⟨0, 4294967295⟩, ⟨0, 4294967295⟩, ⟨0, 4294967295⟩, ⟨0, 4294967295⟩, ⟨(-9223372036854775808), 9223372036854775807⟩]
def t24 : VC :=
 (.ite (.not (.eq (.var 7) (.lit 0)))
  (.need []
  (.fin (.e (.lit 3) (.e (.lit 0) (.e (.lit 0) (.e (.lit 0) (.e (.lit 0) (.e (.lit 0) (.e (.lit 0) (.e (.lit 0) .nil))))))))))
  (.fin (.e (.lit 0) (.e (.var 0) (.e (.var 1) (.e (.var 2) (.e (.var 3) (.e (.var 4) (.e (.var 5) (.e (.var 6) .nil))))))))))
theorem vc24 : vcPf ⟨c24, []⟩ c24.pty iv24 (parLvs s24.params) 250 Try.f24 s24 = t24 := by kernel_rfl
set_option linter.unusedVariables false in
def p24 (T : Tab) (I : Nat → Env → Env → Prop) (M : Nat → Env → Env → Nat) (pre : Nat → List Int → List (List Int) → Prop) (post : List Int → List (List Int) → Prop) (v0 v1 v2 v3 v4 v5 v6 v7 : Int) : Prop :=
 (((!decide ((v7 : Int) = 0)) = true →
  ((True) ∧ ((True) →
  post [3, 0, 0, 0, 0, 0, 0, 0] []))) ∧ ((!decide ((v7 : Int) = 0)) = false →
  post [0, v0, v1, v2, v3, v4, v5, v6] []))
theorem q24 (T : Tab) (I : Nat → Env → Env → Prop) (M : Nat → Env → Env → Nat) (pre : Nat → List Int → List (List Int) → Prop) (post : List Int → List (List Int) → Prop) (v0 v1 v2 v3 v4 v5 v6 v7 : Int) : t24.plain T (presG pre I M) post ⟨[v0, v1, v2, v3, v4, v5, v6, v7], []⟩ = p24 T I M pre post v0 v1 v2 v3 v4 v5 v6 v7 := by kernel_rfl
theorem k24 (T : Tab) (I : Nat → Env → Env → Prop) (M : Nat → Env → Env → Nat) (pre : Nat → List Int → List (List Int) → Prop) (hs : SubSig T c24.sigs) (ht : TotG pre c24.sigs) (hg : T.sig 24 = some s24) (hC : CtAll Try.prog T.fns (presQ pre) c24.pfs c24.pty c24.cls c24.sigs) (hk : CpAll Try.prog c24.cps) (hi : ∀ xs ls, allHas (parIvs s24.params) xs → pre 24 xs ls → allHas iv24 xs)
    (h : ∀ (v0 v1 v2 v3 v4 v5 v6 v7 : Int), allHas iv24 [v0, v1, v2, v3, v4, v5, v6, v7] → allL (parLvs s24.params) [] → pre 24 [v0, v1, v2, v3, v4, v5, v6, v7] [] → p24 T I M pre (fun ys _ => ys = T.app 24 [v0, v1, v2, v3, v4, v5, v6, v7] []) v0 v1 v2 v3 v4 v5 v6 v7) : CTP Try.prog T.fns (presQ pre) c24.pty 24 s24 :=
  T.ctp (F := ⟨c24, []⟩) (fuel := 250) vc24 Try.checked.mixed hs ht hg hC hk Try.func24 I M (fun xs ls h1 h2 h3 => ⟨hi xs ls h1 h3, h2⟩) fun xs ls hx hl hp => by
    match xs, ls, hx, hl, hp with
    | [v0, v1, v2, v3, v4, v5, v6, v7], [], hx, hl, hp => rw [q24]; exact h v0 v1 v2 v3 v4 v5 v6 v7 hx hl hp
/-- loop.example/g01242/laws.toWide -/
def s6 : Sig := ⟨[.val true [.b, .i .u32, .i .u32, .i .u32, .i .u32, .i .u32, .i .u32]], [(true, [.b, .i .u32, .i .u32, .i .u32, .i .u32, .i .u32, .i .u32])], true⟩
noncomputable def c6 : Cfg := ⟨Try.prog, [(20, s20)], [], [], [], [], [], [], 77, []⟩
def iv6 : List Iv := [⟨0, 1⟩, ⟨0, 4294967295⟩, ⟨0, 4294967295⟩, ⟨0, 4294967295⟩, ⟨0, 4294967295⟩, ⟨0, 4294967295⟩, ⟨0, 4294967295⟩]
def t6 : VC :=
 (.call 20 (.e (.var 1) (.e (.var 2) (.e (.var 3) (.e (.var 4) (.e (.var 5) (.e (.var 6) .nil)))))) 6
 (.fin (.e (.var 0) (.e (.var 7) (.e (.var 8) (.e (.var 9) (.e (.var 10) (.e (.var 11) (.e (.var 12) .nil)))))))))
theorem vc6 : vcOfI ⟨c6, []⟩ iv6 (parLvs s6.params) 250 Try.f6 s6 = t6 := by kernel_rfl
set_option linter.unusedVariables false in
def p6 (T : Tab) (I : Nat → Env → Env → Prop) (M : Nat → Env → Env → Nat) (pre : Nat → List Int → List (List Int) → Prop) (post : List Int → List (List Int) → Prop) (v0 v1 v2 v3 v4 v5 v6 : Int) : Prop :=
 ∀ v7 v8 v9 v10 v11 v12 : Int, [v7, v8, v9, v10, v11, v12] = T.out 20 6 [v1, v2, v3, v4, v5, v6] →
 post [v0, v7, v8, v9, v10, v11, v12] []
theorem q6 (T : Tab) (I : Nat → Env → Env → Prop) (M : Nat → Env → Env → Nat) (pre : Nat → List Int → List (List Int) → Prop) (post : List Int → List (List Int) → Prop) (v0 v1 v2 v3 v4 v5 v6 : Int) : t6.plain T (presG pre I M) post ⟨[v0, v1, v2, v3, v4, v5, v6], []⟩ = p6 T I M pre post v0 v1 v2 v3 v4 v5 v6 := by kernel_rfl
theorem k6 (T : Tab) (I : Nat → Env → Env → Prop) (M : Nat → Env → Env → Nat) (pre : Nat → List Int → List (List Int) → Prop) (hs : SubSig T c6.sigs) (ht : TotG pre c6.sigs) (hg : T.sig 6 = some s6) (hC : CtAll Try.prog T.fns (presQ pre) c6.pfs c6.pty c6.cls c6.sigs) (hk : CpAll Try.prog c6.cps) (hi : ∀ xs ls, allHas (parIvs s6.params) xs → pre 6 xs ls → allHas iv6 xs)
    (h : ∀ (v0 v1 v2 v3 v4 v5 v6 : Int), allHas iv6 [v0, v1, v2, v3, v4, v5, v6] → allL (parLvs s6.params) [] → pre 6 [v0, v1, v2, v3, v4, v5, v6] [] → p6 T I M pre (fun ys _ => ys = T.app 6 [v0, v1, v2, v3, v4, v5, v6] []) v0 v1 v2 v3 v4 v5 v6) : CT Try.prog T.fns (presQ pre) 6 s6 :=
  T.ctg (F := ⟨c6, []⟩) (fuel := 250) vc6 Try.checked.mixed hs ht hg hC hk Try.func6 I M (fun xs ls h1 h2 h3 => ⟨hi xs ls h1 h3, h2⟩) fun xs ls hx hl hp => by
    match xs, ls, hx, hl, hp with
    | [v0, v1, v2, v3, v4, v5, v6], [], hx, hl, hp => rw [q6]; exact h v0 v1 v2 v3 v4 v5 v6 hx hl hp
/-- loop.example/g01242/laws.eqWide -/
def s11 : Sig := ⟨[.val true [.b, .i .u32, .i .u32, .i .u32, .i .u32, .i .u32, .i .u32], .val true [.b, .i .u32, .i .u32, .i .u32, .i .u32, .i .u32, .i .u32]], [(false, [.b])], true⟩
noncomputable def c11 : Cfg := ⟨Try.prog, [(36, s36)], [], [], [], [], [], [], 77, []⟩
def iv11 : List Iv := [⟨0, 1⟩, ⟨0, 4294967295⟩, ⟨0, 4294967295⟩, ⟨0, 4294967295⟩, ⟨0, 4294967295⟩, ⟨0, 4294967295⟩, ⟨0, 4294967295⟩, ⟨0, 1⟩, ⟨0, 4294967295⟩, ⟨0, 4294967295⟩, ⟨0, 4294967295⟩, ⟨0, 4294967295⟩, ⟨0, 4294967295⟩, ⟨0, 4294967295⟩]
def t11 : VC :=
 (.ite (.not (.beq (.eq (.var 0) (.lit 1)) (.eq (.var 7) (.lit 1))))
  (.fin (.e (.lit 0) .nil))
  (.call 36 (.e (.var 1) (.e (.var 2) (.e (.var 3) (.e (.var 4) (.e (.var 5) (.e (.var 6) (.e (.var 8) (.e (.var 9) (.e (.var 10) (.e (.var 11) (.e (.var 12) (.e (.var 13) .nil)))))))))))) 1
  (.ite (.not (.eq (.var 14) (.lit 1)))
   (.fin (.e (.lit 0) .nil))
   (.fin (.e (.lit 1) .nil)))))
theorem vc11 : vcOfI ⟨c11, []⟩ iv11 (parLvs s11.params) 250 Try.f11 s11 = t11 := by kernel_rfl
set_option linter.unusedVariables false in
def p11 (T : Tab) (I : Nat → Env → Env → Prop) (M : Nat → Env → Env → Nat) (pre : Nat → List Int → List (List Int) → Prop) (post : List Int → List (List Int) → Prop) (v0 v1 v2 v3 v4 v5 v6 v7 v8 v9 v10 v11 v12 v13 : Int) : Prop :=
 (((!(decide ((v0 : Int) = 1) == decide ((v7 : Int) = 1))) = true →
  post [0] []) ∧ ((!(decide ((v0 : Int) = 1) == decide ((v7 : Int) = 1))) = false →
  ∀ v14 : Int, [v14] = T.out 36 1 [v1, v2, v3, v4, v5, v6, v8, v9, v10, v11, v12, v13] →
  (((!decide ((v14 : Int) = 1)) = true →
   post [0] []) ∧ ((!decide ((v14 : Int) = 1)) = false →
   post [1] []))))
theorem q11 (T : Tab) (I : Nat → Env → Env → Prop) (M : Nat → Env → Env → Nat) (pre : Nat → List Int → List (List Int) → Prop) (post : List Int → List (List Int) → Prop) (v0 v1 v2 v3 v4 v5 v6 v7 v8 v9 v10 v11 v12 v13 : Int) : t11.plain T (presG pre I M) post ⟨[v0, v1, v2, v3, v4, v5, v6, v7, v8, v9, v10, v11, v12, v13], []⟩ = p11 T I M pre post v0 v1 v2 v3 v4 v5 v6 v7 v8 v9 v10 v11 v12 v13 := by kernel_rfl
theorem k11 (T : Tab) (I : Nat → Env → Env → Prop) (M : Nat → Env → Env → Nat) (pre : Nat → List Int → List (List Int) → Prop) (hs : SubSig T c11.sigs) (ht : TotG pre c11.sigs) (hg : T.sig 11 = some s11) (hC : CtAll Try.prog T.fns (presQ pre) c11.pfs c11.pty c11.cls c11.sigs) (hk : CpAll Try.prog c11.cps) (hi : ∀ xs ls, allHas (parIvs s11.params) xs → pre 11 xs ls → allHas iv11 xs)
    (h : ∀ (v0 v1 v2 v3 v4 v5 v6 v7 v8 v9 v10 v11 v12 v13 : Int), allHas iv11 [v0, v1, v2, v3, v4, v5, v6, v7, v8, v9, v10, v11, v12, v13] → allL (parLvs s11.params) [] → pre 11 [v0, v1, v2, v3, v4, v5, v6, v7, v8, v9, v10, v11, v12, v13] [] → p11 T I M pre (fun ys _ => ys = T.app 11 [v0, v1, v2, v3, v4, v5, v6, v7, v8, v9, v10, v11, v12, v13] []) v0 v1 v2 v3 v4 v5 v6 v7 v8 v9 v10 v11 v12 v13) : CT Try.prog T.fns (presQ pre) 11 s11 :=
  T.ctg (F := ⟨c11, []⟩) (fuel := 250) vc11 Try.checked.mixed hs ht hg hC hk Try.func11 I M (fun xs ls h1 h2 h3 => ⟨hi xs ls h1 h3, h2⟩) fun xs ls hx hl hp => by
    match xs, ls, hx, hl, hp with
    | [v0, v1, v2, v3, v4, v5, v6, v7, v8, v9, v10, v11, v12, v13], [], hx, hl, hp => rw [q11]; exact h v0 v1 v2 v3 v4 v5 v6 v7 v8 v9 v10 v11 v12 v13 hx hl hp
end Go.Proofs.Ytpghmmklbhobmaa.Sx
