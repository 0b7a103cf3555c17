import Derived.Test.YtlgccppfjclncaaDoorSxX
import Derived.Test.YtlgccppfjclncaaDoorSxZ
import Derived.Test.YtlgccppfjclncaaDoorD0
import Derived.Test.YtlgccppfjclncaaDoorChecked
import Derived.KernelRfl
namespace Go.Proofs.YtlgccppfjclncaaDoor.Sx
open Go Go.RowKit
/-- loop.example/g01242/impl.wholeFork -/
def s8 : Sig := ⟨[], [(true, [.i .i64, .i .i64, .i .i64, .i .i64])], true⟩
noncomputable def c8 : Cfg := ⟨Tryd.prog, [], [], [], [], [], [], [], 0, []⟩
def iv8 : List Iv := []
def t8 : VC :=
 (.fin (.e (.lit 0) (.e (.lit 1) (.e (.lit 1) (.e (.lit 0) .nil)))))
theorem vc8 : vcOfI ⟨c8, []⟩ iv8 (parLvs s8.params) 250 Tryd.f8 s8 = t8 := by kernel_rfl
set_option linter.unusedVariables false in
def p8 (T : Tab) (I : Nat → Env → Env → Prop) (M : Nat → Env → Env → Nat) (pre : Nat → List Int → List (List Int) → Prop) (post : List Int → List (List Int) → Prop) : Prop :=
 post [0, 1, 1, 0] []
theorem q8 (T : Tab) (I : Nat → Env → Env → Prop) (M : Nat → Env → Env → Nat) (pre : Nat → List Int → List (List Int) → Prop) (post : List Int → List (List Int) → Prop) : t8.plain T (presG pre I M) post ⟨[], []⟩ = p8 T I M pre post  := by kernel_rfl
theorem k8 (T : Tab) (I : Nat → Env → Env → Prop) (M : Nat → Env → Env → Nat) (pre : Nat → List Int → List (List Int) → Prop) (hs : SubSig T c8.sigs) (ht : TotG pre c8.sigs) (hg : T.sig 8 = some s8) (hC : CtAll Tryd.prog T.fns (presQ pre) c8.pfs c8.pty c8.cls c8.sigs) (hk : CpAll Tryd.prog c8.cps) (hi : ∀ xs ls, allHas (parIvs s8.params) xs → pre 8 xs ls → allHas iv8 xs)
    (h : ∀ (_ : Unit), allHas iv8 [] → allL (parLvs s8.params) [] → pre 8 [] [] → p8 T I M pre (fun ys _ => ys = T.app 8 [] []) ) : CT Tryd.prog T.fns (presQ pre) 8 s8 :=
  T.ctg (F := ⟨c8, []⟩) (fuel := 250) vc8 Tryd.checked.mixed hs ht hg hC hk Tryd.func8 I M (fun xs ls h1 h2 h3 => ⟨hi xs ls h1 h3, h2⟩) fun xs ls hx hl hp => by
    match xs, ls, hx, hl, hp with
    | [], [], hx, hl, hp => rw [q8]; exact h () hx hl hp
/-- (loop.example/g01242/impl.Ratio).between -/
def s20 : Sig := ⟨[.val true [.i .i64, .i .i64], .val true [.i .i64, .i .i64]], [(true, [.i .i64, .i .i64])], true⟩
noncomputable def c20 : Cfg := ⟨Tryd.prog, [], [], [], [], [], [], [], 0, []⟩
def iv20 : List Iv := [⟨(-9223372036854775808), 9223372036854775807⟩, ⟨(-9223372036854775808), 9223372036854775807⟩, ⟨(-9223372036854775808), 9223372036854775807⟩, ⟨(-9223372036854775808), 9223372036854775807⟩]
def t20 : VC :=
 (.bind (.wrap .i64 (.add (.var 0) (.var 2)))
 (.bind (.wrap .i64 (.add (.var 1) (.var 3)))
 (.fin (.e (.var 4) (.e (.var 5) .nil)))))
theorem vc20 : vcOfI ⟨c20, []⟩ iv20 (parLvs s20.params) 250 Tryd.f20 s20 = t20 := by kernel_rfl
set_option linter.unusedVariables false in
def p20 (T : Tab) (I : Nat → Env → Env → Prop) (M : Nat → Env → Env → Nat) (pre : Nat → List Int → List (List Int) → Prop) (post : List Int → List (List Int) → Prop) (v0 v1 v2 v3 : Int) : Prop :=
 ∀ v4 : Int, v4 = (IntKind.wrap .i64 (v0 + v2)) →
 ∀ v5 : Int, v5 = (IntKind.wrap .i64 (v1 + v3)) →
 post [v4, v5] []
theorem q20 (T : Tab) (I : Nat → Env → Env → Prop) (M : Nat → Env → Env → Nat) (pre : Nat → List Int → List (List Int) → Prop) (post : List Int → List (List Int) → Prop) (v0 v1 v2 v3 : Int) : t20.plain T (presG pre I M) post ⟨[v0, v1, v2, v3], []⟩ = p20 T I M pre post v0 v1 v2 v3 := by kernel_rfl
theorem k20 (T : Tab) (I : Nat → Env → Env → Prop) (M : Nat → Env → Env → Nat) (pre : Nat → List Int → List (List Int) → Prop) (hs : SubSig T c20.sigs) (ht : TotG pre c20.sigs) (hg : T.sig 20 = some s20) (hC : CtAll Tryd.prog T.fns (presQ pre) c20.pfs c20.pty c20.cls c20.sigs) (hk : CpAll Tryd.prog c20.cps) (hi : ∀ xs ls, allHas (parIvs s20.params) xs → pre 20 xs ls → allHas iv20 xs)
    (h : ∀ (v0 v1 v2 v3 : Int), allHas iv20 [v0, v1, v2, v3] → allL (parLvs s20.params) [] → pre 20 [v0, v1, v2, v3] [] → p20 T I M pre (fun ys _ => ys = T.app 20 [v0, v1, v2, v3] []) v0 v1 v2 v3) : CT Tryd.prog T.fns (presQ pre) 20 s20 :=
  T.ctg (F := ⟨c20, []⟩) (fuel := 250) vc20 Tryd.checked.mixed hs ht hg hC hk Tryd.func20 I M (fun xs ls h1 h2 h3 => ⟨hi xs ls h1 h3, h2⟩) fun xs ls hx hl hp => by
    match xs, ls, hx, hl, hp with
    | [v0, v1, v2, v3], [], hx, hl, hp => rw [q20]; exact h v0 v1 v2 v3 hx hl hp
/-- (loop.example/g01242/impl.fork).middle -/
def s11 : Sig := ⟨[.val true [.i .i64, .i .i64, .i .i64, .i .i64]], [(true, [.i .i64, .i .i64])], true⟩
noncomputable def c11 : Cfg := ⟨Tryd.prog, [(20, s20)], [], [], [], [], [], [], 0, []⟩
def iv11 : List Iv := [⟨(-9223372036854775808), 9223372036854775807⟩, ⟨(-9223372036854775808), 9223372036854775807⟩, ⟨(-9223372036854775808), 9223372036854775807⟩, ⟨(-9223372036854775808), 9223372036854775807⟩]
def t11 : VC :=
 (.call 20 (.e (.var 0) (.e (.var 1) (.e (.var 2) (.e (.var 3) .nil)))) 2
 (.fin (.e (.var 4) (.e (.var 5) .nil))))
theorem vc11 : vcOfI ⟨c11, []⟩ iv11 (parLvs s11.params) 250 Tryd.f11 s11 = t11 := by kernel_rfl
set_option linter.unusedVariables false in
def p11 (T : Tab) (I : Nat → Env → Env → Prop) (M : Nat → Env → Env → Nat) (pre : Nat → List Int → List (List Int) → Prop) (post : List Int → List (List Int) → Prop) (v0 v1 v2 v3 : Int) : Prop :=
 ∀ v4 v5 : Int, [v4, v5] = T.out 20 2 [v0, v1, v2, v3] →
 post [v4, v5] []
theorem q11 (T : Tab) (I : Nat → Env → Env → Prop) (M : Nat → Env → Env → Nat) (pre : Nat → List Int → List (List Int) → Prop) (post : List Int → List (List Int) → Prop) (v0 v1 v2 v3 : Int) : t11.plain T (presG pre I M) post ⟨[v0, v1, v2, v3], []⟩ = p11 T I M pre post v0 v1 v2 v3 := by kernel_rfl
theorem k11 (T : Tab) (I : Nat → Env → Env → Prop) (M : Nat → Env → Env → Nat) (pre : Nat → List Int → List (List Int) → Prop) (hs : SubSig T c11.sigs) (ht : TotG pre c11.sigs) (hg : T.sig 11 = some s11) (hC : CtAll Tryd.prog T.fns (presQ pre) c11.pfs c11.pty c11.cls c11.sigs) (hk : CpAll Tryd.prog c11.cps) (hi : ∀ xs ls, allHas (parIvs s11.params) xs → pre 11 xs ls → allHas iv11 xs)
    (h : ∀ (v0 v1 v2 v3 : Int), allHas iv11 [v0, v1, v2, v3] → allL (parLvs s11.params) [] → pre 11 [v0, v1, v2, v3] [] → p11 T I M pre (fun ys _ => ys = T.app 11 [v0, v1, v2, v3] []) v0 v1 v2 v3) : CT Tryd.prog T.fns (presQ pre) 11 s11 :=
  T.ctg (F := ⟨c11, []⟩) (fuel := 250) vc11 Tryd.checked.mixed hs ht hg hC hk Tryd.func11 I M (fun xs ls h1 h2 h3 => ⟨hi xs ls h1 h3, h2⟩) fun xs ls hx hl hp => by
    match xs, ls, hx, hl, hp with
    | [v0, v1, v2, v3], [], hx, hl, hp => rw [q11]; exact h v0 v1 v2 v3 hx hl hp
/-- (loop.example/g01242/impl.fork).behind -/
def s9 : Sig := ⟨[.val true [.i .i64, .i .i64, .i .i64, .i .i64], .val false [.i .u8]], [(true, [.i .i64, .i .i64, .i .i64, .i .i64])], true⟩
noncomputable def c9 : Cfg := ⟨Tryd.prog, [(11, s11)], [], [], [], [], [], [], 0, []⟩
def iv9 : List Iv := [⟨(-9223372036854775808), 9223372036854775807⟩, ⟨(-9223372036854775808), 9223372036854775807⟩, ⟨(-9223372036854775808), 9223372036854775807⟩, ⟨(-9223372036854775808), 9223372036854775807⟩, ⟨0, 255⟩]
def t9 : VC :=
 (.ite (.eq (.var 4) (.lit 76))
  (.call 11 (.e (.var 0) (.e (.var 1) (.e (.var 2) (.e (.var 3) .nil)))) 2
  (.fin (.e (.var 0) (.e (.var 1) (.e (.var 5) (.e (.var 6) .nil))))))
  (.call 11 (.e (.var 0) (.e (.var 1) (.e (.var 2) (.e (.var 3) .nil)))) 2
  (.fin (.e (.var 5) (.e (.var 6) (.e (.var 2) (.e (.var 3) .nil)))))))
theorem vc9 : vcOfI ⟨c9, []⟩ iv9 (parLvs s9.params) 250 Tryd.f9 s9 = t9 := by kernel_rfl
set_option linter.unusedVariables false in
def p9 (T : Tab) (I : Nat → Env → Env → Prop) (M : Nat → Env → Env → Nat) (pre : Nat → List Int → List (List Int) → Prop) (post : List Int → List (List Int) → Prop) (v0 v1 v2 v3 v4 : Int) : Prop :=
 ((decide ((v4 : Int) = 76) = true →
  ∀ v5 v6 : Int, [v5, v6] = T.out 11 2 [v0, v1, v2, v3] →
  post [v0, v1, v5, v6] []) ∧ (decide ((v4 : Int) = 76) = false →
  ∀ v5 v6 : Int, [v5, v6] = T.out 11 2 [v0, v1, v2, v3] →
  post [v5, v6, v2, v3] []))
theorem q9 (T : Tab) (I : Nat → Env → Env → Prop) (M : Nat → Env → Env → Nat) (pre : Nat → List Int → List (List Int) → Prop) (post : List Int → List (List Int) → Prop) (v0 v1 v2 v3 v4 : Int) : t9.plain T (presG pre I M) post ⟨[v0, v1, v2, v3, v4], []⟩ = p9 T I M pre post v0 v1 v2 v3 v4 := by kernel_rfl
theorem k9 (T : Tab) (I : Nat → Env → Env → Prop) (M : Nat → Env → Env → Nat) (pre : Nat → List Int → List (List Int) → Prop) (hs : SubSig T c9.sigs) (ht : TotG pre c9.sigs) (hg : T.sig 9 = some s9) (hC : CtAll Tryd.prog T.fns (presQ pre) c9.pfs c9.pty c9.cls c9.sigs) (hk : CpAll Tryd.prog c9.cps) (hi : ∀ xs ls, allHas (parIvs s9.params) xs → pre 9 xs ls → allHas iv9 xs)
    (h : ∀ (v0 v1 v2 v3 v4 : Int), allHas iv9 [v0, v1, v2, v3, v4] → allL (parLvs s9.params) [] → pre 9 [v0, v1, v2, v3, v4] [] → p9 T I M pre (fun ys _ => ys = T.app 9 [v0, v1, v2, v3, v4] []) v0 v1 v2 v3 v4) : CT Tryd.prog T.fns (presQ pre) 9 s9 :=
  T.ctg (F := ⟨c9, []⟩) (fuel := 250) vc9 Tryd.checked.mixed hs ht hg hC hk Tryd.func9 I M (fun xs ls h1 h2 h3 => ⟨hi xs ls h1 h3, h2⟩) fun xs ls hx hl hp => by
    match xs, ls, hx, hl, hp with
    | [v0, v1, v2, v3, v4], [], hx, hl, hp => rw [q9]; exact h v0 v1 v2 v3 v4 hx hl hp
/-- loop.example/g01242/impl.isWithin -/
def s25 : Sig := ⟨[.val false [.i .i64], .val false [.i .i64]], [(false, [.b])], true⟩
noncomputable def c25 : Cfg := ⟨Tryd.prog, [], [], [], [], [], [], [], 0, []⟩
def iv25 : List Iv := [⟨(-9223372036854775808), 9223372036854775807⟩, ⟨(-9223372036854775808), 9223372036854775807⟩]
def t25 : VC :=
 (.ite (.le (.wrap .i64 (.sub (.lit 0) (.var 1))) (.var 0))
  (.fin (.e (.ite (.le (.var 0) (.var 1)) (.lit 1) (.lit 0)) .nil))
  (.fin (.e (.lit 0) .nil)))
theorem vc25 : vcOfI ⟨c25, []⟩ iv25 (parLvs s25.params) 250 Tryd.f25 s25 = t25 := by kernel_rfl
set_option linter.unusedVariables false in
def p25 (T : Tab) (I : Nat → Env → Env → Prop) (M : Nat → Env → Env → Nat) (pre : Nat → List Int → List (List Int) → Prop) (post : List Int → List (List Int) → Prop) (v0 v1 : Int) : Prop :=
 ((decide (((IntKind.wrap .i64 (0 - v1)) : Int) ≤ v0) = true →
  post [(if decide ((v0 : Int) ≤ v1) = true then 1 else 0)] []) ∧ (decide (((IntKind.wrap .i64 (0 - v1)) : Int) ≤ v0) = false →
  post [0] []))
theorem q25 (T : Tab) (I : Nat → Env → Env → Prop) (M : Nat → Env → Env → Nat) (pre : Nat → List Int → List (List Int) → Prop) (post : List Int → List (List Int) → Prop) (v0 v1 : Int) : t25.plain T (presG pre I M) post ⟨[v0, v1], []⟩ = p25 T I M pre post v0 v1 := by kernel_rfl
theorem k25 (T : Tab) (I : Nat → Env → Env → Prop) (M : Nat → Env → Env → Nat) (pre : Nat → List Int → List (List Int) → Prop) (hs : SubSig T c25.sigs) (ht : TotG pre c25.sigs) (hg : T.sig 25 = some s25) (hC : CtAll Tryd.prog T.fns (presQ pre) c25.pfs c25.pty c25.cls c25.sigs) (hk : CpAll Tryd.prog c25.cps) (hi : ∀ xs ls, allHas (parIvs s25.params) xs → pre 25 xs ls → allHas iv25 xs)
    (h : ∀ (v0 v1 : Int), allHas iv25 [v0, v1] → allL (parLvs s25.params) [] → pre 25 [v0, v1] [] → p25 T I M pre (fun ys _ => ys = T.app 25 [v0, v1] []) v0 v1) : CT Tryd.prog T.fns (presQ pre) 25 s25 :=
  T.ctg (F := ⟨c25, []⟩) (fuel := 250) vc25 Tryd.checked.mixed hs ht hg hC hk Tryd.func25 I M (fun xs ls h1 h2 h3 => ⟨hi xs ls h1 h3, h2⟩) fun xs ls hx hl hp => by
    match xs, ls, hx, hl, hp with
    | [v0, v1], [], hx, hl, hp => rw [q25]; exact h v0 v1 hx hl hp
/-- loop.example/g01242/impl.commonOf -/
def s26 : Sig := ⟨[.slc [.i .i64, .i .i64]], [(false, [.i .i64])], false⟩
noncomputable def c26 : Cfg := ⟨Tryd.prog, [], [], [], [], [], [], [], 0, []⟩
def iv26 : List Iv := [⟨(-9223372036854775808), 9223372036854775807⟩, ⟨(-9223372036854775808), 9223372036854775807⟩]
def t26 : VC :=
 (.loop 0 [(.lit 0), (.var 0)] [] [⟨(-9223372036854775808), 9223372036854775807⟩, ⟨(-9223372036854775808), 9223372036854775807⟩] []
  (.ite (.not (.eq (.var 3) (.lit 0)))
   (.need [(.b (.not (.eq (.var 3) (.lit 0))))]
   (.bind (.tmod (.var 2) (.var 3))
   (.again 0 2 0 [⟨(-9223372036854775808), 9223372036854775807⟩, ⟨(-9223372036854775808), 9223372036854775807⟩] [(.var 3), (.var 4)] [])))
   (.loop 0 [(.var 2), (.var 1)] [] [⟨(-9223372036854775808), 9223372036854775807⟩, ⟨(-9223372036854775808), 9223372036854775807⟩] []
    (.ite (.not (.eq (.var 5) (.lit 0)))
     (.need [(.b (.not (.eq (.var 5) (.lit 0))))]
     (.bind (.tmod (.var 4) (.var 5))
     (.again 0 4 0 [⟨(-9223372036854775808), 9223372036854775807⟩, ⟨(-9223372036854775808), 9223372036854775807⟩] [(.var 5), (.var 6)] [])))
     (.bind (.ite (.lt (.var 4) (.wrap .i64 (.sub (.lit 0) (.var 4)))) (.wrap .i64 (.sub (.lit 0) (.var 4))) (.var 4))
     (.fin (.e (.var 6) .nil)))))))
theorem vc26 : vcOfI ⟨c26, [(5, ⟨0, [3, 5], [], [12, 13, 14, 15, 16, 17, 10], [⟨(-9223372036854775808), 9223372036854775807⟩, ⟨(-9223372036854775808), 9223372036854775807⟩], [], []⟩)]⟩ iv26 (parLvs s26.params) 250 Tryd.f26 s26 = t26 := by kernel_rfl
set_option linter.unusedVariables false in
def p26 (T : Tab) (I : Nat → Env → Env → Prop) (M : Nat → Env → Env → Nat) (pre : Nat → List Int → List (List Int) → Prop) (post : List Int → List (List Int) → Prop) (v0 v1 : Int) : Prop :=
 ((allHas [⟨(-9223372036854775808), 9223372036854775807⟩, ⟨(-9223372036854775808), 9223372036854775807⟩] [0, v0] ∧ I 0 ⟨[v0, v1], []⟩ ⟨[0, v0], []⟩) ∧ ∀ v2 v3 : Int, allHas [⟨(-9223372036854775808), 9223372036854775807⟩, ⟨(-9223372036854775808), 9223372036854775807⟩] [v2, v3] → I 0 ⟨[v0, v1], []⟩ ⟨[v2, v3], []⟩ →
  (((!decide ((v3 : Int) = 0)) = true →
   (((!decide ((v3 : Int) = 0)) = true) ∧ (((!decide ((v3 : Int) = 0)) = true) →
   ∀ v4 : Int, v4 = (Int.tmod v2 v3) →
   (allHas [⟨(-9223372036854775808), 9223372036854775807⟩, ⟨(-9223372036854775808), 9223372036854775807⟩] [v3, v4] ∧ I 0 ⟨[v0, v1], []⟩ ⟨[v3, v4], []⟩ ∧ M 0 ⟨[v0, v1], []⟩ ⟨[v3, v4], []⟩ < M 0 ⟨[v0, v1], []⟩ ⟨[v2, v3], []⟩)))) ∧ ((!decide ((v3 : Int) = 0)) = false →
   ((allHas [⟨(-9223372036854775808), 9223372036854775807⟩, ⟨(-9223372036854775808), 9223372036854775807⟩] [v2, v1] ∧ I 0 ⟨[v0, v1, v2, v3], []⟩ ⟨[v2, v1], []⟩) ∧ ∀ v4 v5 : Int, allHas [⟨(-9223372036854775808), 9223372036854775807⟩, ⟨(-9223372036854775808), 9223372036854775807⟩] [v4, v5] → I 0 ⟨[v0, v1, v2, v3], []⟩ ⟨[v4, v5], []⟩ →
    (((!decide ((v5 : Int) = 0)) = true →
     (((!decide ((v5 : Int) = 0)) = true) ∧ (((!decide ((v5 : Int) = 0)) = true) →
     ∀ v6 : Int, v6 = (Int.tmod v4 v5) →
     (allHas [⟨(-9223372036854775808), 9223372036854775807⟩, ⟨(-9223372036854775808), 9223372036854775807⟩] [v5, v6] ∧ I 0 ⟨[v0, v1, v2, v3], []⟩ ⟨[v5, v6], []⟩ ∧ M 0 ⟨[v0, v1, v2, v3], []⟩ ⟨[v5, v6], []⟩ < M 0 ⟨[v0, v1, v2, v3], []⟩ ⟨[v4, v5], []⟩)))) ∧ ((!decide ((v5 : Int) = 0)) = false →
     ∀ v6 : Int, v6 = (if decide ((v4 : Int) < (IntKind.wrap .i64 (0 - v4))) = true then (IntKind.wrap .i64 (0 - v4)) else v4) →
     post [v6] []))))))
theorem q26 (T : Tab) (I : Nat → Env → Env → Prop) (M : Nat → Env → Env → Nat) (pre : Nat → List Int → List (List Int) → Prop) (post : List Int → List (List Int) → Prop) (v0 v1 : Int) : t26.plain T (presG pre I M) post ⟨[v0, v1], []⟩ = p26 T I M pre post v0 v1 := by kernel_rfl
theorem k26 (T : Tab) (I : Nat → Env → Env → Prop) (M : Nat → Env → Env → Nat) (pre : Nat → List Int → List (List Int) → Prop) (hs : SubSig T c26.sigs) (ht : TotG pre c26.sigs) (hg : T.sig 26 = some s26) (hC : CtAll Tryd.prog T.fns (presQ pre) c26.pfs c26.pty c26.cls c26.sigs) (hk : CpAll Tryd.prog c26.cps) (hi : ∀ xs ls, allHas (parIvs s26.params) xs → pre 26 xs ls → allHas iv26 xs)
    (h : ∀ (v0 v1 : Int), allHas iv26 [v0, v1] → allL (parLvs s26.params) [] → pre 26 [v0, v1] [] → p26 T I M pre (fun ys _ => ys = T.app 26 [v0, v1] []) v0 v1) : CT Tryd.prog T.fns (presQ pre) 26 s26 :=
  T.ctg (F := ⟨c26, [(5, ⟨0, [3, 5], [], [12, 13, 14, 15, 16, 17, 10], [⟨(-9223372036854775808), 9223372036854775807⟩, ⟨(-9223372036854775808), 9223372036854775807⟩], [], []⟩)]⟩) (fuel := 250) vc26 Tryd.checked.mixed hs ht hg hC hk Tryd.func26 I M (fun xs ls h1 h2 h3 => ⟨hi xs ls h1 h3, h2⟩) fun xs ls hx hl hp => by
    match xs, ls, hx, hl, hp with
    | [v0, v1], [], hx, hl, hp => rw [q26]; exact h v0 v1 hx hl hp
/-- loop.example/g01242/impl.MakeRatio -/
def s19 : Sig := ⟨[.val false [.i .i64], .val false [.i .i64]], [(true, [.i .i64, .i .i64]), (false, [.i .i64])], true⟩
noncomputable def c19 : Cfg := ⟨Tryd.prog, [(25, s25), (26, s26)], [], [], [], [], [], [], 0, []⟩
def iv19 : List Iv := [⟨(-9223372036854775808), 9223372036854775807⟩, ⟨(-9223372036854775808), 9223372036854775807⟩]
def t19 : VC :=
 (.call 25 (.e (.var 0) (.e (.lit 1000000000000000000) .nil)) 1
 (.ite (.eq (.var 2) (.lit 1))
  (.call 25 (.e (.var 1) (.e (.lit 1000000000000000000) .nil)) 1
  (.ite (.not (.eq (.var 3) (.lit 1)))
   (.fin (.e (.lit 0) (.e (.lit 0) (.e (.lit 3) .nil))))
   (.ite (.eq (.var 1) (.lit 0))
    (.fin (.e (.lit 0) (.e (.lit 0) (.e (.lit 4) .nil))))
    (.need [(.pre 26 (.e (.var 0) (.e (.var 1) .nil)))]
    (.call 26 (.e (.var 0) (.e (.var 1) .nil)) 1
    (.ite (.lt (.var 1) (.lit 0))
     (.bind (.wrap .i64 (.sub (.lit 0) (.var 4)))
     (.need [(.b (.not (.eq (.var 5) (.lit 0)))), (.b (.not (.eq (.var 5) (.lit 0))))]
     (.bind (.wrap .i64 (.tdiv (.var 0) (.var 5)))
     (.bind (.wrap .i64 (.tdiv (.var 1) (.var 5)))
     (.call 25 (.e (.var 6) (.e (.lit 2147483648) .nil)) 1
     (.ite (.eq (.var 8) (.lit 1))
      (.ite (.lt (.lit 2147483648) (.var 7))
       (.fin (.e (.lit 0) (.e (.lit 0) (.e (.lit 3) .nil))))
       (.fin (.e (.var 6) (.e (.var 7) (.e (.lit 0) .nil)))))
      (.fin (.e (.lit 0) (.e (.lit 0) (.e (.lit 3) .nil))))))))))
     (.need [(.b (.not (.eq (.var 4) (.lit 0)))), (.b (.not (.eq (.var 4) (.lit 0))))]
     (.bind (.wrap .i64 (.tdiv (.var 0) (.var 4)))
     (.bind (.wrap .i64 (.div (.var 1) (.var 4)))
     (.call 25 (.e (.var 5) (.e (.lit 2147483648) .nil)) 1
     (.ite (.eq (.var 7) (.lit 1))
      (.ite (.lt (.lit 2147483648) (.var 6))
       (.fin (.e (.lit 0) (.e (.lit 0) (.e (.lit 3) .nil))))
       (.fin (.e (.var 5) (.e (.var 6) (.e (.lit 0) .nil)))))
      (.fin (.e (.lit 0) (.e (.lit 0) (.e (.lit 3) .nil)))))))))))))))
  (.fin (.e (.lit 0) (.e (.lit 0) (.e (.lit 3) .nil))))))
theorem vc19 : vcOfI ⟨c19, []⟩ iv19 (parLvs s19.params) 250 Tryd.f19 s19 = t19 := by kernel_rfl
set_option linter.unusedVariables false in
def p19 (T : Tab) (I : Nat → Env → Env → Prop) (M : Nat → Env → Env → Nat) (pre : Nat → List Int → List (List Int) → Prop) (post : List Int → List (List Int) → Prop) (v0 v1 : Int) : Prop :=
 ∀ v2 : Int, [v2] = T.out 25 1 [v0, 1000000000000000000] →
 ((decide ((v2 : Int) = 1) = true →
  ∀ v3 : Int, [v3] = T.out 25 1 [v1, 1000000000000000000] →
  (((!decide ((v3 : Int) = 1)) = true →
   post [0, 0, 3] []) ∧ ((!decide ((v3 : Int) = 1)) = false →
   ((decide ((v1 : Int) = 0) = true →
    post [0, 0, 4] []) ∧ (decide ((v1 : Int) = 0) = false →
    ((pre 26 [v0, v1] []) ∧ ((pre 26 [v0, v1] []) →
    ∀ v4 : Int, [v4] = T.out 26 1 [v0, v1] →
    ((decide ((v1 : Int) < 0) = true →
     ∀ v5 : Int, v5 = (IntKind.wrap .i64 (0 - v4)) →
     (((!decide ((v5 : Int) = 0)) = true ∧ (!decide ((v5 : Int) = 0)) = true) ∧ (((!decide ((v5 : Int) = 0)) = true ∧ (!decide ((v5 : Int) = 0)) = true) →
     ∀ v6 : Int, v6 = (IntKind.wrap .i64 (Int.tdiv v0 v5)) →
     ∀ v7 : Int, v7 = (IntKind.wrap .i64 (Int.tdiv v1 v5)) →
     ∀ v8 : Int, [v8] = T.out 25 1 [v6, 2147483648] →
     ((decide ((v8 : Int) = 1) = true →
      ((decide ((2147483648 : Int) < v7) = true →
       post [0, 0, 3] []) ∧ (decide ((2147483648 : Int) < v7) = false →
       post [v6, v7, 0] []))) ∧ (decide ((v8 : Int) = 1) = false →
      post [0, 0, 3] []))))) ∧ (decide ((v1 : Int) < 0) = false →
     (((!decide ((v4 : Int) = 0)) = true ∧ (!decide ((v4 : Int) = 0)) = true) ∧ (((!decide ((v4 : Int) = 0)) = true ∧ (!decide ((v4 : Int) = 0)) = true) →
     ∀ v5 : Int, v5 = (IntKind.wrap .i64 (Int.tdiv v0 v4)) →
     ∀ v6 : Int, v6 = (IntKind.wrap .i64 (v1 / v4)) →
     ∀ v7 : Int, [v7] = T.out 25 1 [v5, 2147483648] →
     ((decide ((v7 : Int) = 1) = true →
      ((decide ((2147483648 : Int) < v6) = true →
       post [0, 0, 3] []) ∧ (decide ((2147483648 : Int) < v6) = false →
       post [v5, v6, 0] []))) ∧ (decide ((v7 : Int) = 1) = false →
      post [0, 0, 3] []))))))))))))) ∧ (decide ((v2 : Int) = 1) = false →
  post [0, 0, 3] []))
theorem q19 (T : Tab) (I : Nat → Env → Env → Prop) (M : Nat → Env → Env → Nat) (pre : Nat → List Int → List (List Int) → Prop) (post : List Int → List (List Int) → Prop) (v0 v1 : Int) : t19.plain T (presG pre I M) post ⟨[v0, v1], []⟩ = p19 T I M pre post v0 v1 := by kernel_rfl
theorem k19 (T : Tab) (I : Nat → Env → Env → Prop) (M : Nat → Env → Env → Nat) (pre : Nat → List Int → List (List Int) → Prop) (hs : SubSig T c19.sigs) (ht : TotG pre c19.sigs) (hg : T.sig 19 = some s19) (hC : CtAll Tryd.prog T.fns (presQ pre) c19.pfs c19.pty c19.cls c19.sigs) (hk : CpAll Tryd.prog c19.cps) (hi : ∀ xs ls, allHas (parIvs s19.params) xs → pre 19 xs ls → allHas iv19 xs)
    (h : ∀ (v0 v1 : Int), allHas iv19 [v0, v1] → allL (parLvs s19.params) [] → pre 19 [v0, v1] [] → p19 T I M pre (fun ys _ => ys = T.app 19 [v0, v1] []) v0 v1) : CT Tryd.prog T.fns (presQ pre) 19 s19 :=
  T.ctg (F := ⟨c19, []⟩) (fuel := 250) vc19 Tryd.checked.mixed hs ht hg hC hk Tryd.func19 I M (fun xs ls h1 h2 h3 => ⟨hi xs ls h1 h3, h2⟩) fun xs ls hx hl hp => by
    match xs, ls, hx, hl, hp with
    | [v0, v1], [], hx, hl, hp => rw [q19]; exact h v0 v1 hx hl hp
/-- loop.example/g01242/impl.ValidRatio -/
def s10 : Sig := ⟨[.val true [.i .i64, .i .i64]], [(false, [.b])], true⟩
noncomputable def c10 : Cfg := ⟨Tryd.prog, [(19, s19)], [], [], [], [], [], [], 0, []⟩
def iv10 : List Iv := [⟨(-9223372036854775808), 9223372036854775807⟩, ⟨(-9223372036854775808), 9223372036854775807⟩]
def t10 : VC :=
 (.call 19 (.e (.var 0) (.e (.var 1) .nil)) 3
 (.ite (.eq (.var 4) (.lit 0))
  (.bind (.ite (.and (.eq (.var 2) (.var 0)) (.eq (.var 3) (.var 1))) (.lit 1) (.lit 0))
  (.fin (.e (.var 5) .nil)))
  (.fin (.e (.lit 0) .nil))))
theorem vc10 : vcOfI ⟨c10, []⟩ iv10 (parLvs s10.params) 250 Tryd.f10 s10 = t10 := by kernel_rfl
set_option linter.unusedVariables false in
def p10 (T : Tab) (I : Nat → Env → Env → Prop) (M : Nat → Env → Env → Nat) (pre : Nat → List Int → List (List Int) → Prop) (post : List Int → List (List Int) → Prop) (v0 v1 : Int) : Prop :=
 ∀ v2 v3 v4 : Int, [v2, v3, v4] = T.out 19 3 [v0, v1] →
 ((decide ((v4 : Int) = 0) = true →
  ∀ v5 : Int, v5 = (if (decide ((v2 : Int) = v0) && decide ((v3 : Int) = v1)) = true then 1 else 0) →
  post [v5] []) ∧ (decide ((v4 : Int) = 0) = false →
  post [0] []))
theorem q10 (T : Tab) (I : Nat → Env → Env → Prop) (M : Nat → Env → Env → Nat) (pre : Nat → List Int → List (List Int) → Prop) (post : List Int → List (List Int) → Prop) (v0 v1 : Int) : t10.plain T (presG pre I M) post ⟨[v0, v1], []⟩ = p10 T I M pre post v0 v1 := by kernel_rfl
theorem k10 (T : Tab) (I : Nat → Env → Env → Prop) (M : Nat → Env → Env → Nat) (pre : Nat → List Int → List (List Int) → Prop) (hs : SubSig T c10.sigs) (ht : TotG pre c10.sigs) (hg : T.sig 10 = some s10) (hC : CtAll Tryd.prog T.fns (presQ pre) c10.pfs c10.pty c10.cls c10.sigs) (hk : CpAll Tryd.prog c10.cps) (hi : ∀ xs ls, allHas (parIvs s10.params) xs → pre 10 xs ls → allHas iv10 xs)
    (h : ∀ (v0 v1 : Int), allHas iv10 [v0, v1] → allL (parLvs s10.params) [] → pre 10 [v0, v1] [] → p10 T I M pre (fun ys _ => ys = T.app 10 [v0, v1] []) v0 v1) : CT Tryd.prog T.fns (presQ pre) 10 s10 :=
  T.ctg (F := ⟨c10, []⟩) (fuel := 250) vc10 Tryd.checked.mixed hs ht hg hC hk Tryd.func10 I M (fun xs ls h1 h2 h3 => ⟨hi xs ls h1 h3, h2⟩) fun xs ls hx hl hp => by
    match xs, ls, hx, hl, hp with
    | [v0, v1], [], hx, hl, hp => rw [q10]; exact h v0 v1 hx hl hp
/-- loop.example/g01242/laws.eqRatio -/
def s6 : Sig := ⟨[.val true [.i .i64, .i .i64], .val true [.i .i64, .i .i64]], [(false, [.b])], true⟩
noncomputable def c6 : Cfg := ⟨Tryd.prog, [], [], [], [], [], [], [], 0, []⟩
def iv6 : List Iv := [⟨(-9223372036854775808), 9223372036854775807⟩, ⟨(-9223372036854775808), 9223372036854775807⟩, ⟨(-9223372036854775808), 9223372036854775807⟩, ⟨(-9223372036854775808), 9223372036854775807⟩]
def t6 : VC :=
 (.ite (.not (.eq (.var 0) (.var 2)))
  (.fin (.e (.lit 0) .nil))
  (.ite (.not (.eq (.var 1) (.var 3)))
   (.fin (.e (.lit 0) .nil))
   (.fin (.e (.lit 1) .nil))))
theorem vc6 : vcOfI ⟨c6, []⟩ iv6 (parLvs s6.params) 250 Tryd.f6 s6 = t6 := by kernel_rfl
set_option linter.unusedVariables false in
def p6 (T : Tab) (I : Nat → Env → Env → Prop) (M : Nat → Env → Env → Nat) (pre : Nat → List Int → List (List Int) → Prop) (post : List Int → List (List Int) → Prop) (v0 v1 v2 v3 : Int) : Prop :=
 (((!decide ((v0 : Int) = v2)) = true →
  post [0] []) ∧ ((!decide ((v0 : Int) = v2)) = false →
  (((!decide ((v1 : Int) = v3)) = true →
   post [0] []) ∧ ((!decide ((v1 : Int) = v3)) = false →
   post [1] []))))
theorem q6 (T : Tab) (I : Nat → Env → Env → Prop) (M : Nat → Env → Env → Nat) (pre : Nat → List Int → List (List Int) → Prop) (post : List Int → List (List Int) → Prop) (v0 v1 v2 v3 : Int) : t6.plain T (presG pre I M) post ⟨[v0, v1, v2, v3], []⟩ = p6 T I M pre post v0 v1 v2 v3 := by kernel_rfl
theorem k6 (T : Tab) (I : Nat → Env → Env → Prop) (M : Nat → Env → Env → Nat) (pre : Nat → List Int → List (List Int) → Prop) (hs : SubSig T c6.sigs) (ht : TotG pre c6.sigs) (hg : T.sig 6 = some s6) (hC : CtAll Tryd.prog T.fns (presQ pre) c6.pfs c6.pty c6.cls c6.sigs) (hk : CpAll Tryd.prog c6.cps) (hi : ∀ xs ls, allHas (parIvs s6.params) xs → pre 6 xs ls → allHas iv6 xs)
    (h : ∀ (v0 v1 v2 v3 : Int), allHas iv6 [v0, v1, v2, v3] → allL (parLvs s6.params) [] → pre 6 [v0, v1, v2, v3] [] → p6 T I M pre (fun ys _ => ys = T.app 6 [v0, v1, v2, v3] []) v0 v1 v2 v3) : CT Tryd.prog T.fns (presQ pre) 6 s6 :=
  T.ctg (F := ⟨c6, []⟩) (fuel := 250) vc6 Tryd.checked.mixed hs ht hg hC hk Tryd.func6 I M (fun xs ls h1 h2 h3 => ⟨hi xs ls h1 h3, h2⟩) fun xs ls hx hl hp => by
    match xs, ls, hx, hl, hp with
    | [v0, v1, v2, v3], [], hx, hl, hp => rw [q6]; exact h v0 v1 v2 v3 hx hl hp
/-- loop.example/g01242/impl.RatioOfPath -/
def s5 : Sig := ⟨[.str], [(true, [.i .i64, .i .i64]), (false, [.i .i64])], true⟩
noncomputable def c5 : Cfg := ⟨Tryd.prog, [(8, s8), (9, s9), (11, s11), (10, s10)], [], [], [], [(7, s7)], [], [], 0, []⟩
def iv5 : List Iv := []
def t5 : VC :=
 (.ite (.lt (.lit 200) (.len (.var 0)))
  (.fin (.e (.lit 0) (.e (.lit 0) (.e (.lit 3) .nil))))
  (.need [(.pre 7 (.l (.var 0) (.l (.lit [76, 82]) .nil)))]
  (.calll 7 (.l (.var 0) (.l (.lit [76, 82]) .nil)) [] [(⟨0, 255⟩, 9223372036854775807)]
  (.ite (.not (.leq (.var 1) (.lit [])))
   (.fin (.e (.lit 0) (.e (.lit 0) (.e (.lit 5) .nil))))
   (.call 8 .nil 4
   (.loop 1 [(.lit 0), (.var 0), (.var 1), (.var 2), (.var 3)] [] [⟨(-9223372036854775808), 9223372036854775807⟩, ⟨(-9223372036854775808), 9223372036854775807⟩, ⟨(-9223372036854775808), 9223372036854775807⟩, ⟨(-9223372036854775808), 9223372036854775807⟩, ⟨(-9223372036854775808), 9223372036854775807⟩] []
    (.ite (.lt (.var 4) (.len (.var 0)))
     (.need [(.b (.le (.lit 0) (.var 4))), (.b (.lt (.var 4) (.len (.var 0))))]
     (.call 9 (.e (.var 5) (.e (.var 6) (.e (.var 7) (.e (.var 8) (.e (.at (.var 0) (.var 4)) .nil))))) 4
     (.call 11 (.e (.var 9) (.e (.var 10) (.e (.var 11) (.e (.var 12) .nil)))) 2
     (.call 10 (.e (.var 13) (.e (.var 14) .nil)) 1
     (.ite (.not (.eq (.var 15) (.lit 1)))
      (.fin (.e (.lit 0) (.e (.lit 0) (.e (.lit 3) .nil))))
      (.again 1 4 2 [⟨(-9223372036854775808), 9223372036854775807⟩, ⟨(-9223372036854775808), 9223372036854775807⟩, ⟨(-9223372036854775808), 9223372036854775807⟩, ⟨(-9223372036854775808), 9223372036854775807⟩, ⟨(-9223372036854775808), 9223372036854775807⟩] [(.wrap .i64 (.add (.var 4) (.lit 1))), (.var 9), (.var 10), (.var 11), (.var 12)] []))))))
     (.call 11 (.e (.var 5) (.e (.var 6) (.e (.var 7) (.e (.var 8) .nil)))) 2
     (.fin (.e (.var 9) (.e (.var 10) (.e (.lit 0) .nil))))))))))))
theorem vc5 : vcOfI ⟨c5, [(7, ⟨1, [17], [1], [18, 19, 5, 20, 21, 22, 23, 24, 25, 26, 27, 28, 29, 3, 30], [⟨(-9223372036854775808), 9223372036854775807⟩, ⟨(-9223372036854775808), 9223372036854775807⟩, ⟨(-9223372036854775808), 9223372036854775807⟩, ⟨(-9223372036854775808), 9223372036854775807⟩, ⟨(-9223372036854775808), 9223372036854775807⟩], [], []⟩)]⟩ iv5 (parLvs s5.params) 250 Tryd.f5 s5 = t5 := by kernel_rfl
set_option linter.unusedVariables false in
def p5 (T : Tab) (I : Nat → Env → Env → Prop) (M : Nat → Env → Env → Nat) (pre : Nat → List Int → List (List Int) → Prop) (post : List Int → List (List Int) → Prop) (l0 : List Int) : Prop :=
 ((decide ((200 : Int) < (List.length l0 : Int)) = true →
  post [0, 0, 3] []) ∧ (decide ((200 : Int) < (List.length l0 : Int)) = false →
  ((pre 7 [] [l0, ([76, 82] : List Int)]) ∧ ((pre 7 [] [l0, ([76, 82] : List Int)]) →
  ∀ l1 : List Int, allHas [] [] → allL [(⟨0, 255⟩, 9223372036854775807)] [l1] → ([], [l1]) = T.fns 7 [] [l0, ([76, 82] : List Int)] →
  (((!decide ((l1 : List Int) = ([] : List Int))) = true →
   post [0, 0, 5] []) ∧ ((!decide ((l1 : List Int) = ([] : List Int))) = false →
   ∀ v0 v1 v2 v3 : Int, [v0, v1, v2, v3] = T.out 8 4 [] →
   ((allHas [⟨(-9223372036854775808), 9223372036854775807⟩, ⟨(-9223372036854775808), 9223372036854775807⟩, ⟨(-9223372036854775808), 9223372036854775807⟩, ⟨(-9223372036854775808), 9223372036854775807⟩, ⟨(-9223372036854775808), 9223372036854775807⟩] [0, v0, v1, v2, v3] ∧ I 1 ⟨[v0, v1, v2, v3], [l0, l1]⟩ ⟨[0, v0, v1, v2, v3], []⟩) ∧ ∀ v4 v5 v6 v7 v8 : Int, allHas [⟨(-9223372036854775808), 9223372036854775807⟩, ⟨(-9223372036854775808), 9223372036854775807⟩, ⟨(-9223372036854775808), 9223372036854775807⟩, ⟨(-9223372036854775808), 9223372036854775807⟩, ⟨(-9223372036854775808), 9223372036854775807⟩] [v4, v5, v6, v7, v8] → I 1 ⟨[v0, v1, v2, v3], [l0, l1]⟩ ⟨[v4, v5, v6, v7, v8], []⟩ →
    ((decide ((v4 : Int) < (List.length l0 : Int)) = true →
     ((decide ((0 : Int) ≤ v4) = true ∧ decide ((v4 : Int) < (List.length l0 : Int)) = true) ∧ ((decide ((0 : Int) ≤ v4) = true ∧ decide ((v4 : Int) < (List.length l0 : Int)) = true) →
     ∀ v9 v10 v11 v12 : Int, [v9, v10, v11, v12] = T.out 9 4 [v5, v6, v7, v8, (List.getD l0 (Int.toNat v4) 0)] →
     ∀ v13 v14 : Int, [v13, v14] = T.out 11 2 [v9, v10, v11, v12] →
     ∀ v15 : Int, [v15] = T.out 10 1 [v13, v14] →
     (((!decide ((v15 : Int) = 1)) = true →
      post [0, 0, 3] []) ∧ ((!decide ((v15 : Int) = 1)) = false →
      (allHas [⟨(-9223372036854775808), 9223372036854775807⟩, ⟨(-9223372036854775808), 9223372036854775807⟩, ⟨(-9223372036854775808), 9223372036854775807⟩, ⟨(-9223372036854775808), 9223372036854775807⟩, ⟨(-9223372036854775808), 9223372036854775807⟩] [(IntKind.wrap .i64 (v4 + 1)), v9, v10, v11, v12] ∧ I 1 ⟨[v0, v1, v2, v3], [l0, l1]⟩ ⟨[(IntKind.wrap .i64 (v4 + 1)), v9, v10, v11, v12], []⟩ ∧ M 1 ⟨[v0, v1, v2, v3], [l0, l1]⟩ ⟨[(IntKind.wrap .i64 (v4 + 1)), v9, v10, v11, v12], []⟩ < M 1 ⟨[v0, v1, v2, v3], [l0, l1]⟩ ⟨[v4, v5, v6, v7, v8], []⟩)))))) ∧ (decide ((v4 : Int) < (List.length l0 : Int)) = false →
     ∀ v9 v10 : Int, [v9, v10] = T.out 11 2 [v5, v6, v7, v8] →
     post [v9, v10, 0] [])))))))))
theorem q5 (T : Tab) (I : Nat → Env → Env → Prop) (M : Nat → Env → Env → Nat) (pre : Nat → List Int → List (List Int) → Prop) (post : List Int → List (List Int) → Prop) (l0 : List Int) : t5.plain T (presG pre I M) post ⟨[], [l0]⟩ = p5 T I M pre post l0 := by kernel_rfl
theorem k5 (T : Tab) (I : Nat → Env → Env → Prop) (M : Nat → Env → Env → Nat) (pre : Nat → List Int → List (List Int) → Prop) (hs : SubSig T c5.sigs) (ht : TotG pre c5.sigs) (hg : T.sig 5 = some s5) (hC : CtAll Tryd.prog T.fns (presQ pre) c5.pfs c5.pty c5.cls c5.sigs) (hk : CpAll Tryd.prog c5.cps) (hsf : SfAll Tryd.prog T.fns (presQ pre) c5.sfs) (hi : ∀ xs ls, allHas (parIvs s5.params) xs → pre 5 xs ls → allHas iv5 xs)
    (h : ∀ (l0 : List Int), allHas iv5 [] → allL (parLvs s5.params) [l0] → pre 5 [] [l0] → p5 T I M pre (fun ys _ => ys = T.app 5 [] [l0]) l0) : CT Tryd.prog T.fns (presQ pre) 5 s5 :=
  T.ctg (hsf := hsf) (F := ⟨c5, [(7, ⟨1, [17], [1], [18, 19, 5, 20, 21, 22, 23, 24, 25, 26, 27, 28, 29, 3, 30], [⟨(-9223372036854775808), 9223372036854775807⟩, ⟨(-9223372036854775808), 9223372036854775807⟩, ⟨(-9223372036854775808), 9223372036854775807⟩, ⟨(-9223372036854775808), 9223372036854775807⟩, ⟨(-9223372036854775808), 9223372036854775807⟩], [], []⟩)]⟩) (fuel := 250) vc5 Tryd.checked.mixed hs ht hg hC hk Tryd.func5 I M (fun xs ls h1 h2 h3 => ⟨hi xs ls h1 h3, h2⟩) fun xs ls hx hl hp => by
    match xs, ls, hx, hl, hp with
    | [], [l0], hx, hl, hp => rw [q5]; exact h l0 hx hl hp
/-- loop.example/g01242/spec.RatioOfPath -/
def s4 : Sig := ⟨[.str], [(true, [.i .i64, .i .i64]), (false, [.i .i64])], true⟩
noncomputable def c4 : Cfg := ⟨Tryd.prog, [], [], [], [], [], [], [], 0, []⟩
def iv4 : List Iv := []
def t4 : VC :=
 (.ite (.lt (.lit 200) (.len (.var 0)))
  (.fin (.e (.lit 0) (.e (.lit 0) (.e (.lit 3) .nil))))
  (.loop 1 [(.lit 0)] [] [⟨(-9223372036854775808), 9223372036854775807⟩] []
   (.ite (.lt (.var 0) (.len (.var 0)))
    (.need [(.b (.le (.lit 0) (.var 0))), (.b (.lt (.var 0) (.len (.var 0))))]
    (.ite (.not (.eq (.at (.var 0) (.var 0)) (.lit 76)))
     (.need [(.b (.le (.lit 0) (.var 0))), (.b (.lt (.var 0) (.len (.var 0))))]
     (.ite (.not (.eq (.at (.var 0) (.var 0)) (.lit 82)))
      (.fin (.e (.lit 0) (.e (.lit 0) (.e (.lit 5) .nil))))
      (.bind (.wrap .i64 (.add (.var 0) (.lit 1)))
      (.again 1 0 1 [⟨(-9223372036854775808), 9223372036854775807⟩] [(.var 1)] []))))
     (.bind (.wrap .i64 (.add (.var 0) (.lit 1)))
     (.again 1 0 1 [⟨(-9223372036854775808), 9223372036854775807⟩] [(.var 1)] []))))
    (.loop 2 [(.lit 0), (.lit 0), (.lit 1), (.lit 1), (.lit 0), (.lit 1), (.lit 1)] [] [⟨(-9223372036854775808), 9223372036854775807⟩, ⟨(-9223372036854775808), 9223372036854775807⟩, ⟨(-9223372036854775808), 9223372036854775807⟩, ⟨(-9223372036854775808), 9223372036854775807⟩, ⟨(-9223372036854775808), 9223372036854775807⟩, ⟨(-9223372036854775808), 9223372036854775807⟩, ⟨(-9223372036854775808), 9223372036854775807⟩] []
     (.ite (.lt (.var 1) (.len (.var 0)))
      (.need [(.b (.le (.lit 0) (.var 1))), (.b (.lt (.var 1) (.len (.var 0))))]
      (.bind (.ite (.eq (.at (.var 0) (.var 1)) (.lit 76)) (.var 2) (.var 6))
      (.bind (.ite (.eq (.at (.var 0) (.var 1)) (.lit 76)) (.var 3) (.var 7))
      (.bind (.ite (.eq (.at (.var 0) (.var 1)) (.lit 76)) (.var 6) (.var 4))
      (.bind (.ite (.eq (.at (.var 0) (.var 1)) (.lit 76)) (.var 7) (.var 5))
      (.bind (.wrap .i64 (.add (.var 8) (.var 10)))
      (.bind (.wrap .i64 (.add (.var 9) (.var 11)))
      (.ite (.le (.var 12) (.lit 2147483648))
       (.ite (.lt (.lit 2147483648) (.var 13))
        (.fin (.e (.lit 0) (.e (.lit 0) (.e (.lit 3) .nil))))
        (.bind (.wrap .i64 (.add (.var 1) (.lit 1)))
        (.again 2 1 1 [⟨(-9223372036854775808), 9223372036854775807⟩, ⟨(-9223372036854775808), 9223372036854775807⟩, ⟨(-9223372036854775808), 9223372036854775807⟩, ⟨(-9223372036854775808), 9223372036854775807⟩, ⟨(-9223372036854775808), 9223372036854775807⟩, ⟨(-9223372036854775808), 9223372036854775807⟩, ⟨(-9223372036854775808), 9223372036854775807⟩] [(.var 14), (.var 8), (.var 9), (.var 10), (.var 11), (.var 12), (.var 13)] [])))
       (.fin (.e (.lit 0) (.e (.lit 0) (.e (.lit 3) .nil))))))))))))
      (.fin (.e (.var 6) (.e (.var 7) (.e (.lit 0) .nil)))))))))
theorem vc4 : vcOfI ⟨c4, [(4, ⟨1, [4], [], [13, 14, 15, 16, 19, 20, 21, 22, 23, 24, 25, 26, 27, 28, 29, 3, 17, 18], [⟨(-9223372036854775808), 9223372036854775807⟩], [], []⟩), (12, ⟨2, [8], [1, 2, 3], [33, 34, 35, 36, 39, 40, 41, 42, 43, 44, 45, 46, 47, 48, 49, 50, 51, 52, 53, 54, 55, 56, 57, 58, 59, 60, 61, 62, 63, 64, 3, 37, 38], [⟨(-9223372036854775808), 9223372036854775807⟩, ⟨(-9223372036854775808), 9223372036854775807⟩, ⟨(-9223372036854775808), 9223372036854775807⟩, ⟨(-9223372036854775808), 9223372036854775807⟩, ⟨(-9223372036854775808), 9223372036854775807⟩, ⟨(-9223372036854775808), 9223372036854775807⟩, ⟨(-9223372036854775808), 9223372036854775807⟩], [], []⟩)]⟩ iv4 (parLvs s4.params) 250 Tryd.f4 s4 = t4 := by kernel_rfl
set_option linter.unusedVariables false in
def p4 (T : Tab) (I : Nat → Env → Env → Prop) (M : Nat → Env → Env → Nat) (pre : Nat → List Int → List (List Int) → Prop) (post : List Int → List (List Int) → Prop) (l0 : List Int) : Prop :=
 ((decide ((200 : Int) < (List.length l0 : Int)) = true →
  post [0, 0, 3] []) ∧ (decide ((200 : Int) < (List.length l0 : Int)) = false →
  ((allHas [⟨(-9223372036854775808), 9223372036854775807⟩] [0] ∧ I 1 ⟨[], [l0]⟩ ⟨[0], []⟩) ∧ ∀ v0 : Int, allHas [⟨(-9223372036854775808), 9223372036854775807⟩] [v0] → I 1 ⟨[], [l0]⟩ ⟨[v0], []⟩ →
   ((decide ((v0 : Int) < (List.length l0 : Int)) = true →
    ((decide ((0 : Int) ≤ v0) = true ∧ decide ((v0 : Int) < (List.length l0 : Int)) = true) ∧ ((decide ((0 : Int) ≤ v0) = true ∧ decide ((v0 : Int) < (List.length l0 : Int)) = true) →
    (((!decide (((List.getD l0 (Int.toNat v0) 0) : Int) = 76)) = true →
     ((decide ((0 : Int) ≤ v0) = true ∧ decide ((v0 : Int) < (List.length l0 : Int)) = true) ∧ ((decide ((0 : Int) ≤ v0) = true ∧ decide ((v0 : Int) < (List.length l0 : Int)) = true) →
     (((!decide (((List.getD l0 (Int.toNat v0) 0) : Int) = 82)) = true →
      post [0, 0, 5] []) ∧ ((!decide (((List.getD l0 (Int.toNat v0) 0) : Int) = 82)) = false →
      ∀ v1 : Int, v1 = (IntKind.wrap .i64 (v0 + 1)) →
      (allHas [⟨(-9223372036854775808), 9223372036854775807⟩] [v1] ∧ I 1 ⟨[], [l0]⟩ ⟨[v1], []⟩ ∧ M 1 ⟨[], [l0]⟩ ⟨[v1], []⟩ < M 1 ⟨[], [l0]⟩ ⟨[v0], []⟩)))))) ∧ ((!decide (((List.getD l0 (Int.toNat v0) 0) : Int) = 76)) = false →
     ∀ v1 : Int, v1 = (IntKind.wrap .i64 (v0 + 1)) →
     (allHas [⟨(-9223372036854775808), 9223372036854775807⟩] [v1] ∧ I 1 ⟨[], [l0]⟩ ⟨[v1], []⟩ ∧ M 1 ⟨[], [l0]⟩ ⟨[v1], []⟩ < M 1 ⟨[], [l0]⟩ ⟨[v0], []⟩)))))) ∧ (decide ((v0 : Int) < (List.length l0 : Int)) = false →
    ((allHas [⟨(-9223372036854775808), 9223372036854775807⟩, ⟨(-9223372036854775808), 9223372036854775807⟩, ⟨(-9223372036854775808), 9223372036854775807⟩, ⟨(-9223372036854775808), 9223372036854775807⟩, ⟨(-9223372036854775808), 9223372036854775807⟩, ⟨(-9223372036854775808), 9223372036854775807⟩, ⟨(-9223372036854775808), 9223372036854775807⟩] [0, 0, 1, 1, 0, 1, 1] ∧ I 2 ⟨[v0], [l0]⟩ ⟨[0, 0, 1, 1, 0, 1, 1], []⟩) ∧ ∀ v1 v2 v3 v4 v5 v6 v7 : Int, allHas [⟨(-9223372036854775808), 9223372036854775807⟩, ⟨(-9223372036854775808), 9223372036854775807⟩, ⟨(-9223372036854775808), 9223372036854775807⟩, ⟨(-9223372036854775808), 9223372036854775807⟩, ⟨(-9223372036854775808), 9223372036854775807⟩, ⟨(-9223372036854775808), 9223372036854775807⟩, ⟨(-9223372036854775808), 9223372036854775807⟩] [v1, v2, v3, v4, v5, v6, v7] → I 2 ⟨[v0], [l0]⟩ ⟨[v1, v2, v3, v4, v5, v6, v7], []⟩ →
     ((decide ((v1 : Int) < (List.length l0 : Int)) = true →
      ((decide ((0 : Int) ≤ v1) = true ∧ decide ((v1 : Int) < (List.length l0 : Int)) = true) ∧ ((decide ((0 : Int) ≤ v1) = true ∧ decide ((v1 : Int) < (List.length l0 : Int)) = true) →
      ∀ v8 : Int, v8 = (if decide (((List.getD l0 (Int.toNat v1) 0) : Int) = 76) = true then v2 else v6) →
      ∀ v9 : Int, v9 = (if decide (((List.getD l0 (Int.toNat v1) 0) : Int) = 76) = true then v3 else v7) →
      ∀ v10 : Int, v10 = (if decide (((List.getD l0 (Int.toNat v1) 0) : Int) = 76) = true then v6 else v4) →
      ∀ v11 : Int, v11 = (if decide (((List.getD l0 (Int.toNat v1) 0) : Int) = 76) = true then v7 else v5) →
      ∀ v12 : Int, v12 = (IntKind.wrap .i64 (v8 + v10)) →
      ∀ v13 : Int, v13 = (IntKind.wrap .i64 (v9 + v11)) →
      ((decide ((v12 : Int) ≤ 2147483648) = true →
       ((decide ((2147483648 : Int) < v13) = true →
        post [0, 0, 3] []) ∧ (decide ((2147483648 : Int) < v13) = false →
        ∀ v14 : Int, v14 = (IntKind.wrap .i64 (v1 + 1)) →
        (allHas [⟨(-9223372036854775808), 9223372036854775807⟩, ⟨(-9223372036854775808), 9223372036854775807⟩, ⟨(-9223372036854775808), 9223372036854775807⟩, ⟨(-9223372036854775808), 9223372036854775807⟩, ⟨(-9223372036854775808), 9223372036854775807⟩, ⟨(-9223372036854775808), 9223372036854775807⟩, ⟨(-9223372036854775808), 9223372036854775807⟩] [v14, v8, v9, v10, v11, v12, v13] ∧ I 2 ⟨[v0], [l0]⟩ ⟨[v14, v8, v9, v10, v11, v12, v13], []⟩ ∧ M 2 ⟨[v0], [l0]⟩ ⟨[v14, v8, v9, v10, v11, v12, v13], []⟩ < M 2 ⟨[v0], [l0]⟩ ⟨[v1, v2, v3, v4, v5, v6, v7], []⟩)))) ∧ (decide ((v12 : Int) ≤ 2147483648) = false →
       post [0, 0, 3] []))))) ∧ (decide ((v1 : Int) < (List.length l0 : Int)) = false →
      post [v6, v7, 0] []))))))))
theorem q4 (T : Tab) (I : Nat → Env → Env → Prop) (M : Nat → Env → Env → Nat) (pre : Nat → List Int → List (List Int) → Prop) (post : List Int → List (List Int) → Prop) (l0 : List Int) : t4.plain T (presG pre I M) post ⟨[], [l0]⟩ = p4 T I M pre post l0 := by kernel_rfl
theorem k4 (T : Tab) (I : Nat → Env → Env → Prop) (M : Nat → Env → Env → Nat) (pre : Nat → List Int → List (List Int) → Prop) (hs : SubSig T c4.sigs) (ht : TotG pre c4.sigs) (hg : T.sig 4 = some s4) (hC : CtAll Tryd.prog T.fns (presQ pre) c4.pfs c4.pty c4.cls c4.sigs) (hk : CpAll Tryd.prog c4.cps) (hi : ∀ xs ls, allHas (parIvs s4.params) xs → pre 4 xs ls → allHas iv4 xs)
    (h : ∀ (l0 : List Int), allHas iv4 [] → allL (parLvs s4.params) [l0] → pre 4 [] [l0] → p4 T I M pre (fun ys _ => ys = T.app 4 [] [l0]) l0) : CT Tryd.prog T.fns (presQ pre) 4 s4 :=
  T.ctg (F := ⟨c4, [(4, ⟨1, [4], [], [13, 14, 15, 16, 19, 20, 21, 22, 23, 24, 25, 26, 27, 28, 29, 3, 17, 18], [⟨(-9223372036854775808), 9223372036854775807⟩], [], []⟩), (12, ⟨2, [8], [1, 2, 3], [33, 34, 35, 36, 39, 40, 41, 42, 43, 44, 45, 46, 47, 48, 49, 50, 51, 52, 53, 54, 55, 56, 57, 58, 59, 60, 61, 62, 63, 64, 3, 37, 38], [⟨(-9223372036854775808), 9223372036854775807⟩, ⟨(-9223372036854775808), 9223372036854775807⟩, ⟨(-9223372036854775808), 9223372036854775807⟩, ⟨(-9223372036854775808), 9223372036854775807⟩, ⟨(-9223372036854775808), 9223372036854775807⟩, ⟨(-9223372036854775808), 9223372036854775807⟩, ⟨(-9223372036854775808), 9223372036854775807⟩], [], []⟩)]⟩) (fuel := 250) vc4 Tryd.checked.mixed hs ht hg hC hk Tryd.func4 I M (fun xs ls h1 h2 h3 => ⟨hi xs ls h1 h3, h2⟩) fun xs ls hx hl hp => by
    match xs, ls, hx, hl, hp with
    | [], [l0], hx, hl, hp => rw [q4]; exact h l0 hx hl hp
/-- loop.example/g01242/laws.FnExactRatioOfPath -/
def s3 : Sig := ⟨[.str], [(false, [.b])], true⟩
noncomputable def c3 : Cfg := ⟨Tryd.prog, [(4, s4), (5, s5), (6, s6)], [], [], [], [], [], [], 0, []⟩
def iv3 : List Iv := []
def t3 : VC :=
 (.ite (.lt (.lit 1048576) (.len (.var 0)))
  (.fin (.e (.lit 1) .nil))
  (.call 4 (.l (.var 0) .nil) 3
  (.call 5 (.l (.var 0) .nil) 3
  (.call 6 (.e (.var 3) (.e (.var 4) (.e (.var 0) (.e (.var 1) .nil)))) 1
  (.ite (.eq (.var 6) (.lit 1))
   (.ite (.not (.eq (.var 5) (.var 2)))
    (.fin (.e (.lit 0) .nil))
    (.fin (.e (.lit 1) .nil)))
   (.fin (.e (.lit 0) .nil)))))))
theorem vc3 : vcOfI ⟨c3, []⟩ iv3 (parLvs s3.params) 250 Tryd.f3 s3 = t3 := by kernel_rfl
set_option linter.unusedVariables false in
def p3 (T : Tab) (I : Nat → Env → Env → Prop) (M : Nat → Env → Env → Nat) (pre : Nat → List Int → List (List Int) → Prop) (post : List Int → List (List Int) → Prop) (l0 : List Int) : Prop :=
 ((decide ((1048576 : Int) < (List.length l0 : Int)) = true →
  post [1] []) ∧ (decide ((1048576 : Int) < (List.length l0 : Int)) = false →
  ∀ v0 v1 v2 : Int, [v0, v1, v2] = T.outL 4 3 [] [l0] →
  ∀ v3 v4 v5 : Int, [v3, v4, v5] = T.outL 5 3 [] [l0] →
  ∀ v6 : Int, [v6] = T.out 6 1 [v3, v4, v0, v1] →
  ((decide ((v6 : Int) = 1) = true →
   (((!decide ((v5 : Int) = v2)) = true →
    post [0] []) ∧ ((!decide ((v5 : Int) = v2)) = false →
    post [1] []))) ∧ (decide ((v6 : Int) = 1) = false →
   post [0] []))))
theorem q3 (T : Tab) (I : Nat → Env → Env → Prop) (M : Nat → Env → Env → Nat) (pre : Nat → List Int → List (List Int) → Prop) (post : List Int → List (List Int) → Prop) (l0 : List Int) : t3.plain T (presG pre I M) post ⟨[], [l0]⟩ = p3 T I M pre post l0 := by kernel_rfl
theorem k3 (T : Tab) (I : Nat → Env → Env → Prop) (M : Nat → Env → Env → Nat) (pre : Nat → List Int → List (List Int) → Prop) (hs : SubSig T c3.sigs) (ht : TotG pre c3.sigs) (hg : T.sig 3 = some s3) (hC : CtAll Tryd.prog T.fns (presQ pre) c3.pfs c3.pty c3.cls c3.sigs) (hk : CpAll Tryd.prog c3.cps) (hi : ∀ xs ls, allHas (parIvs s3.params) xs → pre 3 xs ls → allHas iv3 xs)
    (h : ∀ (l0 : List Int), allHas iv3 [] → allL (parLvs s3.params) [l0] → pre 3 [] [l0] → p3 T I M pre (fun ys _ => ys = T.app 3 [] [l0]) l0) : CT Tryd.prog T.fns (presQ pre) 3 s3 :=
  T.ctg (F := ⟨c3, []⟩) (fuel := 250) vc3 Tryd.checked.mixed hs ht hg hC hk Tryd.func3 I M (fun xs ls h1 h2 h3 => ⟨hi xs ls h1 h3, h2⟩) fun xs ls hx hl hp => by
    match xs, ls, hx, hl, hp with
    | [], [l0], hx, hl, hp => rw [q3]; exact h l0 hx hl hp
end Go.Proofs.YtlgccppfjclncaaDoor.Sx
