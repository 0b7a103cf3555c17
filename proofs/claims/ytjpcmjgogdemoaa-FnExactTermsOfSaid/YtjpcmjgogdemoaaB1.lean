import Derived.Test.YtjpcmjgogdemoaaSxY
import Derived.Test.YtjpcmjgogdemoaaA1
import Derived.Test.YtjpcmjgogdemoaaChecked
import Derived.KernelRfl
namespace Go.Proofs.Ytjpcmjgogdemoaa.Sx
open Go Go.RowKit
/-- loop.example/g01242/spec.l03Size -/
def s82 : Sig := ⟨[.val false [.i .i64]], [(false, [.i .i64])], true⟩
noncomputable def c82 : Cfg := ⟨Try.prog, [], [], [], []⟩
def iv82 : List Iv := [⟨(-9223372036854775808), 9223372036854775807⟩]
def t82 : VC :=
 (.ite (.lt (.var 0) (.lit 0))
  (.bind (.wrap .i64 (.sub (.lit 0) (.var 0)))
  (.fin (.e (.var 1) .nil)))
  (.fin (.e (.var 0) .nil)))
theorem vc82 : vcOfI ⟨c82, []⟩ iv82 (parLvs s82.params) 250 Try.f82 s82 = t82 := by kernel_rfl
set_option linter.unusedVariables false in
def p82 (T : Tab) (I : Nat → Env → Env → Prop) (M : Nat → Env → Env → Nat) (pre : Nat → List Int → List (List Int) → Prop) (post : List Int → List (List Int) → Prop) (v0 : Int) : Prop :=
 ((decide ((v0 : Int) < 0) = true →
  ∀ v1 : Int, v1 = (IntKind.wrap .i64 (0 - v0)) →
  post [v1] []) ∧ (decide ((v0 : Int) < 0) = false →
  post [v0] []))
theorem q82 (T : Tab) (I : Nat → Env → Env → Prop) (M : Nat → Env → Env → Nat) (pre : Nat → List Int → List (List Int) → Prop) (post : List Int → List (List Int) → Prop) (v0 : Int) : t82.plain T (presG pre I M) post ⟨[v0], []⟩ = p82 T I M pre post v0 := by kernel_rfl
theorem k82 (T : Tab) (I : Nat → Env → Env → Prop) (M : Nat → Env → Env → Nat) (pre : Nat → List Int → List (List Int) → Prop) (hs : SubSig T c82.sigs) (ht : TotG pre c82.sigs) (hg : T.sig 82 = some s82) (hC : CtAll Try.prog T.fns (presQ pre) c82.sigs) (hk : CpAll Try.prog c82.cps) (hi : ∀ xs ls, allHas (parIvs s82.params) xs → pre 82 xs ls → allHas iv82 xs)
    (h : ∀ (v0 : Int), allHas iv82 [v0] → allL (parLvs s82.params) [] → pre 82 [v0] [] → p82 T I M pre (fun ys _ => ys = T.app 82 [v0] []) v0) : CT Try.prog T.fns (presQ pre) 82 s82 :=
  T.ctg (F := ⟨c82, []⟩) (fuel := 250) vc82 Try.checked.mixed hs ht hg hC hk Try.func82 I M (fun xs ls h1 h2 h3 => ⟨hi xs ls h1 h3, h2⟩) fun xs ls hx hl hp => by
    match xs, ls, hx, hl, hp with
    | [v0], [], hx, hl, hp => rw [q82]; exact h v0 hx hl hp
/-- loop.example/g01242/spec.l00In -/
def s89 : Sig := ⟨[.val false [.i .i64], .val false [.i .i64], .val false [.i .i64]], [(false, [.b])], true⟩
noncomputable def c89 : Cfg := ⟨Try.prog, [], [], [], []⟩
def iv89 : List Iv := [⟨(-9223372036854775808), 9223372036854775807⟩, ⟨(-9223372036854775808), 9223372036854775807⟩, ⟨(-9223372036854775808), 9223372036854775807⟩]
def t89 : VC :=
 (.ite (.le (.var 1) (.var 0))
  (.fin (.e (.ite (.le (.var 0) (.var 2)) (.lit 1) (.lit 0)) .nil))
  (.fin (.e (.lit 0) .nil)))
theorem vc89 : vcOfI ⟨c89, []⟩ iv89 (parLvs s89.params) 250 Try.f89 s89 = t89 := by kernel_rfl
set_option linter.unusedVariables false in
def p89 (T : Tab) (I : Nat → Env → Env → Prop) (M : Nat → Env → Env → Nat) (pre : Nat → List Int → List (List Int) → Prop) (post : List Int → List (List Int) → Prop) (v0 v1 v2 : Int) : Prop :=
 ((decide ((v1 : Int) ≤ v0) = true →
  post [(if decide ((v0 : Int) ≤ v2) = true then 1 else 0)] []) ∧ (decide ((v1 : Int) ≤ v0) = false →
  post [0] []))
theorem q89 (T : Tab) (I : Nat → Env → Env → Prop) (M : Nat → Env → Env → Nat) (pre : Nat → List Int → List (List Int) → Prop) (post : List Int → List (List Int) → Prop) (v0 v1 v2 : Int) : t89.plain T (presG pre I M) post ⟨[v0, v1, v2], []⟩ = p89 T I M pre post v0 v1 v2 := by kernel_rfl
theorem k89 (T : Tab) (I : Nat → Env → Env → Prop) (M : Nat → Env → Env → Nat) (pre : Nat → List Int → List (List Int) → Prop) (hs : SubSig T c89.sigs) (ht : TotG pre c89.sigs) (hg : T.sig 89 = some s89) (hC : CtAll Try.prog T.fns (presQ pre) c89.sigs) (hk : CpAll Try.prog c89.cps) (hi : ∀ xs ls, allHas (parIvs s89.params) xs → pre 89 xs ls → allHas iv89 xs)
    (h : ∀ (v0 v1 v2 : Int), allHas iv89 [v0, v1, v2] → allL (parLvs s89.params) [] → pre 89 [v0, v1, v2] [] → p89 T I M pre (fun ys _ => ys = T.app 89 [v0, v1, v2] []) v0 v1 v2) : CT Try.prog T.fns (presQ pre) 89 s89 :=
  T.ctg (F := ⟨c89, []⟩) (fuel := 250) vc89 Try.checked.mixed hs ht hg hC hk Try.func89 I M (fun xs ls h1 h2 h3 => ⟨hi xs ls h1 h3, h2⟩) fun xs ls hx hl hp => by
    match xs, ls, hx, hl, hp with
    | [v0, v1, v2], [], hx, hl, hp => rw [q89]; exact h v0 v1 v2 hx hl hp
/-- loop.example/g01242/impl.isWithin -/
def s76 : Sig := ⟨[.val false [.i .i64], .val false [.i .i64]], [(false, [.b])], true⟩
noncomputable def c76 : Cfg := ⟨Try.prog, [], [], [], []⟩
def iv76 : List Iv := [⟨(-9223372036854775808), 9223372036854775807⟩, ⟨(-9223372036854775808), 9223372036854775807⟩]
def t76 : VC :=
 (.ite (.le (.wrap .i64 (.sub (.lit 0) (.var 1))) (.var 0))
  (.fin (.e (.ite (.le (.var 0) (.var 1)) (.lit 1) (.lit 0)) .nil))
  (.fin (.e (.lit 0) .nil)))
theorem vc76 : vcOfI ⟨c76, []⟩ iv76 (parLvs s76.params) 250 Try.f76 s76 = t76 := by kernel_rfl
set_option linter.unusedVariables false in
def p76 (T : Tab) (I : Nat → Env → Env → Prop) (M : Nat → Env → Env → Nat) (pre : Nat → List Int → List (List Int) → Prop) (post : List Int → List (List Int) → Prop) (v0 v1 : Int) : Prop :=
 ((decide (((IntKind.wrap .i64 (0 - v1)) : Int) ≤ v0) = true →
  post [(if decide ((v0 : Int) ≤ v1) = true then 1 else 0)] []) ∧ (decide (((IntKind.wrap .i64 (0 - v1)) : Int) ≤ v0) = false →
  post [0] []))
theorem q76 (T : Tab) (I : Nat → Env → Env → Prop) (M : Nat → Env → Env → Nat) (pre : Nat → List Int → List (List Int) → Prop) (post : List Int → List (List Int) → Prop) (v0 v1 : Int) : t76.plain T (presG pre I M) post ⟨[v0, v1], []⟩ = p76 T I M pre post v0 v1 := by kernel_rfl
theorem k76 (T : Tab) (I : Nat → Env → Env → Prop) (M : Nat → Env → Env → Nat) (pre : Nat → List Int → List (List Int) → Prop) (hs : SubSig T c76.sigs) (ht : TotG pre c76.sigs) (hg : T.sig 76 = some s76) (hC : CtAll Try.prog T.fns (presQ pre) c76.sigs) (hk : CpAll Try.prog c76.cps) (hi : ∀ xs ls, allHas (parIvs s76.params) xs → pre 76 xs ls → allHas iv76 xs)
    (h : ∀ (v0 v1 : Int), allHas iv76 [v0, v1] → allL (parLvs s76.params) [] → pre 76 [v0, v1] [] → p76 T I M pre (fun ys _ => ys = T.app 76 [v0, v1] []) v0 v1) : CT Try.prog T.fns (presQ pre) 76 s76 :=
  T.ctg (F := ⟨c76, []⟩) (fuel := 250) vc76 Try.checked.mixed hs ht hg hC hk Try.func76 I M (fun xs ls h1 h2 h3 => ⟨hi xs ls h1 h3, h2⟩) fun xs ls hx hl hp => by
    match xs, ls, hx, hl, hp with
    | [v0, v1], [], hx, hl, hp => rw [q76]; exact h v0 v1 hx hl hp
/-- loop.example/g01242/impl.commonOf -/
def s101 : Sig := ⟨[.slc [.i .i64, .i .i64]], [(false, [.i .i64])], false⟩
noncomputable def c101 : Cfg := ⟨Try.prog, [], [], [], []⟩
def iv101 : List Iv := [⟨(-9223372036854775808), 9223372036854775807⟩, ⟨(-9223372036854775808), 9223372036854775807⟩]
def t101 : VC :=
 (.loop 0 [(.lit 0), (.var 0)] [] [⟨(-9223372036854775808), 9223372036854775807⟩, ⟨(-9223372036854775808), 9223372036854775807⟩] []
  (.ite (.not (.eq (.var 3) (.lit 0)))
   (.need [(.b (.not (.eq (.var 3) (.lit 0))))]
   (.bind (.tmod (.var 2) (.var 3))
   (.again 0 2 0 [⟨(-9223372036854775808), 9223372036854775807⟩, ⟨(-9223372036854775808), 9223372036854775807⟩] [(.var 3), (.var 4)] [])))
   (.loop 0 [(.var 2), (.var 1)] [] [⟨(-9223372036854775808), 9223372036854775807⟩, ⟨(-9223372036854775808), 9223372036854775807⟩] []
    (.ite (.not (.eq (.var 5) (.lit 0)))
     (.need [(.b (.not (.eq (.var 5) (.lit 0))))]
     (.bind (.tmod (.var 4) (.var 5))
     (.again 0 4 0 [⟨(-9223372036854775808), 9223372036854775807⟩, ⟨(-9223372036854775808), 9223372036854775807⟩] [(.var 5), (.var 6)] [])))
     (.bind (.ite (.lt (.var 4) (.wrap .i64 (.sub (.lit 0) (.var 4)))) (.wrap .i64 (.sub (.lit 0) (.var 4))) (.var 4))
     (.fin (.e (.var 6) .nil)))))))
theorem vc101 : vcOfI ⟨c101, [(5, ⟨0, [3, 5], [], [12, 13, 14, 15, 16, 17, 10], [⟨(-9223372036854775808), 9223372036854775807⟩, ⟨(-9223372036854775808), 9223372036854775807⟩], [], []⟩)]⟩ iv101 (parLvs s101.params) 250 Try.f101 s101 = t101 := by kernel_rfl
set_option linter.unusedVariables false in
def p101 (T : Tab) (I : Nat → Env → Env → Prop) (M : Nat → Env → Env → Nat) (pre : Nat → List Int → List (List Int) → Prop) (post : List Int → List (List Int) → Prop) (v0 v1 : Int) : Prop :=
 ((allHas [⟨(-9223372036854775808), 9223372036854775807⟩, ⟨(-9223372036854775808), 9223372036854775807⟩] [0, v0] ∧ I 0 ⟨[v0, v1], []⟩ ⟨[0, v0], []⟩) ∧ ∀ v2 v3 : Int, allHas [⟨(-9223372036854775808), 9223372036854775807⟩, ⟨(-9223372036854775808), 9223372036854775807⟩] [v2, v3] → I 0 ⟨[v0, v1], []⟩ ⟨[v2, v3], []⟩ →
  (((!decide ((v3 : Int) = 0)) = true →
   (((!decide ((v3 : Int) = 0)) = true) ∧ (((!decide ((v3 : Int) = 0)) = true) →
   ∀ v4 : Int, v4 = (Int.tmod v2 v3) →
   (allHas [⟨(-9223372036854775808), 9223372036854775807⟩, ⟨(-9223372036854775808), 9223372036854775807⟩] [v3, v4] ∧ I 0 ⟨[v0, v1], []⟩ ⟨[v3, v4], []⟩ ∧ M 0 ⟨[v0, v1], []⟩ ⟨[v3, v4], []⟩ < M 0 ⟨[v0, v1], []⟩ ⟨[v2, v3], []⟩)))) ∧ ((!decide ((v3 : Int) = 0)) = false →
   ((allHas [⟨(-9223372036854775808), 9223372036854775807⟩, ⟨(-9223372036854775808), 9223372036854775807⟩] [v2, v1] ∧ I 0 ⟨[v0, v1, v2, v3], []⟩ ⟨[v2, v1], []⟩) ∧ ∀ v4 v5 : Int, allHas [⟨(-9223372036854775808), 9223372036854775807⟩, ⟨(-9223372036854775808), 9223372036854775807⟩] [v4, v5] → I 0 ⟨[v0, v1, v2, v3], []⟩ ⟨[v4, v5], []⟩ →
    (((!decide ((v5 : Int) = 0)) = true →
     (((!decide ((v5 : Int) = 0)) = true) ∧ (((!decide ((v5 : Int) = 0)) = true) →
     ∀ v6 : Int, v6 = (Int.tmod v4 v5) →
     (allHas [⟨(-9223372036854775808), 9223372036854775807⟩, ⟨(-9223372036854775808), 9223372036854775807⟩] [v5, v6] ∧ I 0 ⟨[v0, v1, v2, v3], []⟩ ⟨[v5, v6], []⟩ ∧ M 0 ⟨[v0, v1, v2, v3], []⟩ ⟨[v5, v6], []⟩ < M 0 ⟨[v0, v1, v2, v3], []⟩ ⟨[v4, v5], []⟩)))) ∧ ((!decide ((v5 : Int) = 0)) = false →
     ∀ v6 : Int, v6 = (if decide ((v4 : Int) < (IntKind.wrap .i64 (0 - v4))) = true then (IntKind.wrap .i64 (0 - v4)) else v4) →
     post [v6] []))))))
theorem q101 (T : Tab) (I : Nat → Env → Env → Prop) (M : Nat → Env → Env → Nat) (pre : Nat → List Int → List (List Int) → Prop) (post : List Int → List (List Int) → Prop) (v0 v1 : Int) : t101.plain T (presG pre I M) post ⟨[v0, v1], []⟩ = p101 T I M pre post v0 v1 := by kernel_rfl
theorem k101 (T : Tab) (I : Nat → Env → Env → Prop) (M : Nat → Env → Env → Nat) (pre : Nat → List Int → List (List Int) → Prop) (hs : SubSig T c101.sigs) (ht : TotG pre c101.sigs) (hg : T.sig 101 = some s101) (hC : CtAll Try.prog T.fns (presQ pre) c101.sigs) (hk : CpAll Try.prog c101.cps) (hi : ∀ xs ls, allHas (parIvs s101.params) xs → pre 101 xs ls → allHas iv101 xs)
    (h : ∀ (v0 v1 : Int), allHas iv101 [v0, v1] → allL (parLvs s101.params) [] → pre 101 [v0, v1] [] → p101 T I M pre (fun ys _ => ys = T.app 101 [v0, v1] []) v0 v1) : CT Try.prog T.fns (presQ pre) 101 s101 :=
  T.ctg (F := ⟨c101, [(5, ⟨0, [3, 5], [], [12, 13, 14, 15, 16, 17, 10], [⟨(-9223372036854775808), 9223372036854775807⟩, ⟨(-9223372036854775808), 9223372036854775807⟩], [], []⟩)]⟩) (fuel := 250) vc101 Try.checked.mixed hs ht hg hC hk Try.func101 I M (fun xs ls h1 h2 h3 => ⟨hi xs ls h1 h3, h2⟩) fun xs ls hx hl hp => by
    match xs, ls, hx, hl, hp with
    | [v0, v1], [], hx, hl, hp => rw [q101]; exact h v0 v1 hx hl hp
/-- loop.example/g01242/spec.l03Common -/
def s99 : Sig := ⟨[.val false [.i .i64], .val false [.i .i64]], [(false, [.i .i64])], false⟩
noncomputable def c99 : Cfg := ⟨Try.prog, [(82, s82)], [], [], []⟩
def iv99 : List Iv := [⟨(-9223372036854775808), 9223372036854775807⟩, ⟨(-9223372036854775808), 9223372036854775807⟩]
def t99 : VC :=
 (.call 82 (.e (.var 0) .nil) 1
 (.call 82 (.e (.var 1) .nil) 1
 (.loop 0 [(.var 2), (.var 3)] [] [⟨(-9223372036854775808), 9223372036854775807⟩, ⟨(-9223372036854775808), 9223372036854775807⟩] []
  (.ite (.not (.eq (.var 5) (.lit 0)))
   (.need [(.b (.not (.eq (.var 5) (.lit 0))))]
   (.bind (.tmod (.var 4) (.var 5))
   (.again 0 4 0 [⟨(-9223372036854775808), 9223372036854775807⟩, ⟨(-9223372036854775808), 9223372036854775807⟩] [(.var 5), (.var 6)] [])))
   (.fin (.e (.var 4) .nil))))))
theorem vc99 : vcOfI ⟨c99, [(3, ⟨0, [0, 1], [], [10, 11, 12, 13, 14, 5, 15, 16], [⟨(-9223372036854775808), 9223372036854775807⟩, ⟨(-9223372036854775808), 9223372036854775807⟩], [], []⟩)]⟩ iv99 (parLvs s99.params) 250 Try.f99 s99 = t99 := by kernel_rfl
set_option linter.unusedVariables false in
def p99 (T : Tab) (I : Nat → Env → Env → Prop) (M : Nat → Env → Env → Nat) (pre : Nat → List Int → List (List Int) → Prop) (post : List Int → List (List Int) → Prop) (v0 v1 : Int) : Prop :=
 ∀ v2 : Int, [v2] = T.out 82 1 [v0] →
 ∀ v3 : Int, [v3] = T.out 82 1 [v1] →
 ((allHas [⟨(-9223372036854775808), 9223372036854775807⟩, ⟨(-9223372036854775808), 9223372036854775807⟩] [v2, v3] ∧ I 0 ⟨[v0, v1, v2, v3], []⟩ ⟨[v2, v3], []⟩) ∧ ∀ v4 v5 : Int, allHas [⟨(-9223372036854775808), 9223372036854775807⟩, ⟨(-9223372036854775808), 9223372036854775807⟩] [v4, v5] → I 0 ⟨[v0, v1, v2, v3], []⟩ ⟨[v4, v5], []⟩ →
  (((!decide ((v5 : Int) = 0)) = true →
   (((!decide ((v5 : Int) = 0)) = true) ∧ (((!decide ((v5 : Int) = 0)) = true) →
   ∀ v6 : Int, v6 = (Int.tmod v4 v5) →
   (allHas [⟨(-9223372036854775808), 9223372036854775807⟩, ⟨(-9223372036854775808), 9223372036854775807⟩] [v5, v6] ∧ I 0 ⟨[v0, v1, v2, v3], []⟩ ⟨[v5, v6], []⟩ ∧ M 0 ⟨[v0, v1, v2, v3], []⟩ ⟨[v5, v6], []⟩ < M 0 ⟨[v0, v1, v2, v3], []⟩ ⟨[v4, v5], []⟩)))) ∧ ((!decide ((v5 : Int) = 0)) = false →
   post [v4] [])))
theorem q99 (T : Tab) (I : Nat → Env → Env → Prop) (M : Nat → Env → Env → Nat) (pre : Nat → List Int → List (List Int) → Prop) (post : List Int → List (List Int) → Prop) (v0 v1 : Int) : t99.plain T (presG pre I M) post ⟨[v0, v1], []⟩ = p99 T I M pre post v0 v1 := by kernel_rfl
theorem k99 (T : Tab) (I : Nat → Env → Env → Prop) (M : Nat → Env → Env → Nat) (pre : Nat → List Int → List (List Int) → Prop) (hs : SubSig T c99.sigs) (ht : TotG pre c99.sigs) (hg : T.sig 99 = some s99) (hC : CtAll Try.prog T.fns (presQ pre) c99.sigs) (hk : CpAll Try.prog c99.cps) (hi : ∀ xs ls, allHas (parIvs s99.params) xs → pre 99 xs ls → allHas iv99 xs)
    (h : ∀ (v0 v1 : Int), allHas iv99 [v0, v1] → allL (parLvs s99.params) [] → pre 99 [v0, v1] [] → p99 T I M pre (fun ys _ => ys = T.app 99 [v0, v1] []) v0 v1) : CT Try.prog T.fns (presQ pre) 99 s99 :=
  T.ctg (F := ⟨c99, [(3, ⟨0, [0, 1], [], [10, 11, 12, 13, 14, 5, 15, 16], [⟨(-9223372036854775808), 9223372036854775807⟩, ⟨(-9223372036854775808), 9223372036854775807⟩], [], []⟩)]⟩) (fuel := 250) vc99 Try.checked.mixed hs ht hg hC hk Try.func99 I M (fun xs ls h1 h2 h3 => ⟨hi xs ls h1 h3, h2⟩) fun xs ls hx hl hp => by
    match xs, ls, hx, hl, hp with
    | [v0, v1], [], hx, hl, hp => rw [q99]; exact h v0 v1 hx hl hp
/-- loop.example/g01242/spec.l03Ratio -/
def s95 : Sig := ⟨[.ptr [.i .i64, .i .i64]], [(false, [.b])], true⟩
noncomputable def c95 : Cfg := ⟨Try.prog, [(89, s89), (99, s99)], [], [], []⟩
def iv95 : List Iv := [⟨(-9223372036854775808), 9223372036854775807⟩, ⟨(-9223372036854775808), 9223372036854775807⟩]
def t95 : VC :=
 (.ite (.eq (.app 89 0 (.e (.var 1) (.e (.lit 1) (.e (.lit 2147483648) .nil)))) (.lit 1))
  (.ite (.eq (.app 89 0 (.e (.var 0) (.e (.lit (-2147483648)) (.e (.lit 2147483648) .nil)))) (.lit 1))
   (.need [(.pre 99 (.e (.var 0) (.e (.var 1) .nil)))]
   (.call 89 (.e (.var 1) (.e (.lit 1) (.e (.lit 2147483648) .nil))) 1
   (.call 89 (.e (.var 0) (.e (.lit (-2147483648)) (.e (.lit 2147483648) .nil))) 1
   (.call 99 (.e (.var 0) (.e (.var 1) .nil)) 1
   (.fin (.e (.ite (.eq (.var 4) (.lit 1)) (.lit 1) (.lit 0)) .nil))))))
   (.call 89 (.e (.var 1) (.e (.lit 1) (.e (.lit 2147483648) .nil))) 1
   (.call 89 (.e (.var 0) (.e (.lit (-2147483648)) (.e (.lit 2147483648) .nil))) 1
   (.fin (.e (.lit 0) .nil)))))
  (.call 89 (.e (.var 1) (.e (.lit 1) (.e (.lit 2147483648) .nil))) 1
  (.fin (.e (.lit 0) .nil))))
theorem vc95 : vcOfI ⟨c95, []⟩ iv95 (parLvs s95.params) 250 Try.f95 s95 = t95 := by kernel_rfl
set_option linter.unusedVariables false in
def p95 (T : Tab) (I : Nat → Env → Env → Prop) (M : Nat → Env → Env → Nat) (pre : Nat → List Int → List (List Int) → Prop) (post : List Int → List (List Int) → Prop) (v0 v1 : Int) : Prop :=
 ((decide (((List.getD (T.fns 89 [v1, 1, 2147483648] []).1 0 0) : Int) = 1) = true →
  ((decide (((List.getD (T.fns 89 [v0, (-2147483648), 2147483648] []).1 0 0) : Int) = 1) = true →
   ((pre 99 [v0, v1] []) ∧ ((pre 99 [v0, v1] []) →
   ∀ v2 : Int, [v2] = T.out 89 1 [v1, 1, 2147483648] →
   ∀ v3 : Int, [v3] = T.out 89 1 [v0, (-2147483648), 2147483648] →
   ∀ v4 : Int, [v4] = T.out 99 1 [v0, v1] →
   post [(if decide ((v4 : Int) = 1) = true then 1 else 0)] []))) ∧ (decide (((List.getD (T.fns 89 [v0, (-2147483648), 2147483648] []).1 0 0) : Int) = 1) = false →
   ∀ v2 : Int, [v2] = T.out 89 1 [v1, 1, 2147483648] →
   ∀ v3 : Int, [v3] = T.out 89 1 [v0, (-2147483648), 2147483648] →
   post [0] []))) ∧ (decide (((List.getD (T.fns 89 [v1, 1, 2147483648] []).1 0 0) : Int) = 1) = false →
  ∀ v2 : Int, [v2] = T.out 89 1 [v1, 1, 2147483648] →
  post [0] []))
theorem q95 (T : Tab) (I : Nat → Env → Env → Prop) (M : Nat → Env → Env → Nat) (pre : Nat → List Int → List (List Int) → Prop) (post : List Int → List (List Int) → Prop) (v0 v1 : Int) : t95.plain T (presG pre I M) post ⟨[v0, v1], []⟩ = p95 T I M pre post v0 v1 := by kernel_rfl
theorem k95 (T : Tab) (I : Nat → Env → Env → Prop) (M : Nat → Env → Env → Nat) (pre : Nat → List Int → List (List Int) → Prop) (hs : SubSig T c95.sigs) (ht : TotG pre c95.sigs) (hg : T.sig 95 = some s95) (hC : CtAll Try.prog T.fns (presQ pre) c95.sigs) (hk : CpAll Try.prog c95.cps) (hi : ∀ xs ls, allHas (parIvs s95.params) xs → pre 95 xs ls → allHas iv95 xs)
    (h : ∀ (v0 v1 : Int), allHas iv95 [v0, v1] → allL (parLvs s95.params) [] → pre 95 [v0, v1] [] → p95 T I M pre (fun ys _ => ys = T.app 95 [v0, v1] []) v0 v1) : CT Try.prog T.fns (presQ pre) 95 s95 :=
  T.ctg (F := ⟨c95, []⟩) (fuel := 250) vc95 Try.checked.mixed hs ht hg hC hk Try.func95 I M (fun xs ls h1 h2 h3 => ⟨hi xs ls h1 h3, h2⟩) fun xs ls hx hl hp => by
    match xs, ls, hx, hl, hp with
    | [v0, v1], [], hx, hl, hp => rw [q95]; exact h v0 v1 hx hl hp
/-- loop.example/g01242/impl.MakeRatio -/
def s67 : Sig := ⟨[.val false [.i .i64], .val false [.i .i64]], [(true, [.i .i64, .i .i64]), (false, [.i .i64])], true⟩
noncomputable def c67 : Cfg := ⟨Try.prog, [(76, s76), (101, s101)], [], [], []⟩
def iv67 : List Iv := [⟨(-9223372036854775808), 9223372036854775807⟩, ⟨(-9223372036854775808), 9223372036854775807⟩]
def t67 : VC :=
 (.call 76 (.e (.var 0) (.e (.lit 1000000000000000000) .nil)) 1
 (.ite (.eq (.var 2) (.lit 1))
  (.call 76 (.e (.var 1) (.e (.lit 1000000000000000000) .nil)) 1
  (.ite (.not (.eq (.var 3) (.lit 1)))
   (.fin (.e (.lit 0) (.e (.lit 0) (.e (.lit 3) .nil))))
   (.ite (.eq (.var 1) (.lit 0))
    (.fin (.e (.lit 0) (.e (.lit 0) (.e (.lit 4) .nil))))
    (.need [(.pre 101 (.e (.var 0) (.e (.var 1) .nil)))]
    (.call 101 (.e (.var 0) (.e (.var 1) .nil)) 1
    (.ite (.lt (.var 1) (.lit 0))
     (.bind (.wrap .i64 (.sub (.lit 0) (.var 4)))
     (.need [(.b (.not (.eq (.var 5) (.lit 0)))), (.b (.not (.eq (.var 5) (.lit 0))))]
     (.bind (.wrap .i64 (.tdiv (.var 0) (.var 5)))
     (.bind (.wrap .i64 (.tdiv (.var 1) (.var 5)))
     (.call 76 (.e (.var 6) (.e (.lit 2147483648) .nil)) 1
     (.ite (.eq (.var 8) (.lit 1))
      (.ite (.lt (.lit 2147483648) (.var 7))
       (.fin (.e (.lit 0) (.e (.lit 0) (.e (.lit 3) .nil))))
       (.fin (.e (.var 6) (.e (.var 7) (.e (.lit 0) .nil)))))
      (.fin (.e (.lit 0) (.e (.lit 0) (.e (.lit 3) .nil))))))))))
     (.need [(.b (.not (.eq (.var 4) (.lit 0)))), (.b (.not (.eq (.var 4) (.lit 0))))]
     (.bind (.wrap .i64 (.tdiv (.var 0) (.var 4)))
     (.bind (.wrap .i64 (.div (.var 1) (.var 4)))
     (.call 76 (.e (.var 5) (.e (.lit 2147483648) .nil)) 1
     (.ite (.eq (.var 7) (.lit 1))
      (.ite (.lt (.lit 2147483648) (.var 6))
       (.fin (.e (.lit 0) (.e (.lit 0) (.e (.lit 3) .nil))))
       (.fin (.e (.var 5) (.e (.var 6) (.e (.lit 0) .nil)))))
      (.fin (.e (.lit 0) (.e (.lit 0) (.e (.lit 3) .nil)))))))))))))))
  (.fin (.e (.lit 0) (.e (.lit 0) (.e (.lit 3) .nil))))))
theorem vc67 : vcOfI ⟨c67, []⟩ iv67 (parLvs s67.params) 250 Try.f67 s67 = t67 := by kernel_rfl
set_option linter.unusedVariables false in
def p67 (T : Tab) (I : Nat → Env → Env → Prop) (M : Nat → Env → Env → Nat) (pre : Nat → List Int → List (List Int) → Prop) (post : List Int → List (List Int) → Prop) (v0 v1 : Int) : Prop :=
 ∀ v2 : Int, [v2] = T.out 76 1 [v0, 1000000000000000000] →
 ((decide ((v2 : Int) = 1) = true →
  ∀ v3 : Int, [v3] = T.out 76 1 [v1, 1000000000000000000] →
  (((!decide ((v3 : Int) = 1)) = true →
   post [0, 0, 3] []) ∧ ((!decide ((v3 : Int) = 1)) = false →
   ((decide ((v1 : Int) = 0) = true →
    post [0, 0, 4] []) ∧ (decide ((v1 : Int) = 0) = false →
    ((pre 101 [v0, v1] []) ∧ ((pre 101 [v0, v1] []) →
    ∀ v4 : Int, [v4] = T.out 101 1 [v0, v1] →
    ((decide ((v1 : Int) < 0) = true →
     ∀ v5 : Int, v5 = (IntKind.wrap .i64 (0 - v4)) →
     (((!decide ((v5 : Int) = 0)) = true ∧ (!decide ((v5 : Int) = 0)) = true) ∧ (((!decide ((v5 : Int) = 0)) = true ∧ (!decide ((v5 : Int) = 0)) = true) →
     ∀ v6 : Int, v6 = (IntKind.wrap .i64 (Int.tdiv v0 v5)) →
     ∀ v7 : Int, v7 = (IntKind.wrap .i64 (Int.tdiv v1 v5)) →
     ∀ v8 : Int, [v8] = T.out 76 1 [v6, 2147483648] →
     ((decide ((v8 : Int) = 1) = true →
      ((decide ((2147483648 : Int) < v7) = true →
       post [0, 0, 3] []) ∧ (decide ((2147483648 : Int) < v7) = false →
       post [v6, v7, 0] []))) ∧ (decide ((v8 : Int) = 1) = false →
      post [0, 0, 3] []))))) ∧ (decide ((v1 : Int) < 0) = false →
     (((!decide ((v4 : Int) = 0)) = true ∧ (!decide ((v4 : Int) = 0)) = true) ∧ (((!decide ((v4 : Int) = 0)) = true ∧ (!decide ((v4 : Int) = 0)) = true) →
     ∀ v5 : Int, v5 = (IntKind.wrap .i64 (Int.tdiv v0 v4)) →
     ∀ v6 : Int, v6 = (IntKind.wrap .i64 (v1 / v4)) →
     ∀ v7 : Int, [v7] = T.out 76 1 [v5, 2147483648] →
     ((decide ((v7 : Int) = 1) = true →
      ((decide ((2147483648 : Int) < v6) = true →
       post [0, 0, 3] []) ∧ (decide ((2147483648 : Int) < v6) = false →
       post [v5, v6, 0] []))) ∧ (decide ((v7 : Int) = 1) = false →
      post [0, 0, 3] []))))))))))))) ∧ (decide ((v2 : Int) = 1) = false →
  post [0, 0, 3] []))
theorem q67 (T : Tab) (I : Nat → Env → Env → Prop) (M : Nat → Env → Env → Nat) (pre : Nat → List Int → List (List Int) → Prop) (post : List Int → List (List Int) → Prop) (v0 v1 : Int) : t67.plain T (presG pre I M) post ⟨[v0, v1], []⟩ = p67 T I M pre post v0 v1 := by kernel_rfl
theorem k67 (T : Tab) (I : Nat → Env → Env → Prop) (M : Nat → Env → Env → Nat) (pre : Nat → List Int → List (List Int) → Prop) (hs : SubSig T c67.sigs) (ht : TotG pre c67.sigs) (hg : T.sig 67 = some s67) (hC : CtAll Try.prog T.fns (presQ pre) c67.sigs) (hk : CpAll Try.prog c67.cps) (hi : ∀ xs ls, allHas (parIvs s67.params) xs → pre 67 xs ls → allHas iv67 xs)
    (h : ∀ (v0 v1 : Int), allHas iv67 [v0, v1] → allL (parLvs s67.params) [] → pre 67 [v0, v1] [] → p67 T I M pre (fun ys _ => ys = T.app 67 [v0, v1] []) v0 v1) : CT Try.prog T.fns (presQ pre) 67 s67 :=
  T.ctg (F := ⟨c67, []⟩) (fuel := 250) vc67 Try.checked.mixed hs ht hg hC hk Try.func67 I M (fun xs ls h1 h2 h3 => ⟨hi xs ls h1 h3, h2⟩) fun xs ls hx hl hp => by
    match xs, ls, hx, hl, hp with
    | [v0, v1], [], hx, hl, hp => rw [q67]; exact h v0 v1 hx hl hp
/-- loop.example/g01242/spec.l03Make -/
def s63 : Sig := ⟨[.val false [.i .i64], .val false [.i .i64]], [(true, [.i .i64, .i .i64]), (false, [.i .i64])], false⟩
noncomputable def c63 : Cfg := ⟨Try.prog, [(99, s99), (95, s95)], [], [], []⟩
def iv63 : List Iv := [⟨(-9223372036854775808), 9223372036854775807⟩, ⟨(-9223372036854775808), 9223372036854775807⟩]
def t63 : VC :=
 (.need [(.pre 99 (.e (.var 0) (.e (.var 1) .nil)))]
 (.call 99 (.e (.var 0) (.e (.var 1) .nil)) 1
 (.ite (.lt (.var 1) (.lit 0))
  (.bind (.wrap .i64 (.sub (.lit 0) (.var 2)))
  (.need [(.b (.not (.eq (.var 3) (.lit 0)))), (.b (.not (.eq (.var 3) (.lit 0))))]
  (.bind (.wrap .i64 (.tdiv (.var 0) (.var 3)))
  (.bind (.wrap .i64 (.tdiv (.var 1) (.var 3)))
  (.call 95 (.e (.var 4) (.e (.var 5) .nil)) 1
  (.ite (.not (.eq (.var 6) (.lit 1)))
   (.fin (.e (.lit 0) (.e (.lit 0) (.e (.lit 3) .nil))))
   (.fin (.e (.var 4) (.e (.var 5) (.e (.lit 0) .nil))))))))))
  (.need [(.b (.not (.eq (.var 2) (.lit 0)))), (.b (.not (.eq (.var 2) (.lit 0))))]
  (.bind (.wrap .i64 (.tdiv (.var 0) (.var 2)))
  (.bind (.wrap .i64 (.div (.var 1) (.var 2)))
  (.call 95 (.e (.var 3) (.e (.var 4) .nil)) 1
  (.ite (.not (.eq (.var 5) (.lit 1)))
   (.fin (.e (.lit 0) (.e (.lit 0) (.e (.lit 3) .nil))))
   (.fin (.e (.var 3) (.e (.var 4) (.e (.lit 0) .nil))))))))))))
theorem vc63 : vcOfI ⟨c63, []⟩ iv63 (parLvs s63.params) 250 Try.f63 s63 = t63 := by kernel_rfl
set_option linter.unusedVariables false in
def p63 (T : Tab) (I : Nat → Env → Env → Prop) (M : Nat → Env → Env → Nat) (pre : Nat → List Int → List (List Int) → Prop) (post : List Int → List (List Int) → Prop) (v0 v1 : Int) : Prop :=
 ((pre 99 [v0, v1] []) ∧ ((pre 99 [v0, v1] []) →
 ∀ v2 : Int, [v2] = T.out 99 1 [v0, v1] →
 ((decide ((v1 : Int) < 0) = true →
  ∀ v3 : Int, v3 = (IntKind.wrap .i64 (0 - v2)) →
  (((!decide ((v3 : Int) = 0)) = true ∧ (!decide ((v3 : Int) = 0)) = true) ∧ (((!decide ((v3 : Int) = 0)) = true ∧ (!decide ((v3 : Int) = 0)) = true) →
  ∀ v4 : Int, v4 = (IntKind.wrap .i64 (Int.tdiv v0 v3)) →
  ∀ v5 : Int, v5 = (IntKind.wrap .i64 (Int.tdiv v1 v3)) →
  ∀ v6 : Int, [v6] = T.out 95 1 [v4, v5] →
  (((!decide ((v6 : Int) = 1)) = true →
   post [0, 0, 3] []) ∧ ((!decide ((v6 : Int) = 1)) = false →
   post [v4, v5, 0] []))))) ∧ (decide ((v1 : Int) < 0) = false →
  (((!decide ((v2 : Int) = 0)) = true ∧ (!decide ((v2 : Int) = 0)) = true) ∧ (((!decide ((v2 : Int) = 0)) = true ∧ (!decide ((v2 : Int) = 0)) = true) →
  ∀ v3 : Int, v3 = (IntKind.wrap .i64 (Int.tdiv v0 v2)) →
  ∀ v4 : Int, v4 = (IntKind.wrap .i64 (v1 / v2)) →
  ∀ v5 : Int, [v5] = T.out 95 1 [v3, v4] →
  (((!decide ((v5 : Int) = 1)) = true →
   post [0, 0, 3] []) ∧ ((!decide ((v5 : Int) = 1)) = false →
   post [v3, v4, 0] []))))))))
theorem q63 (T : Tab) (I : Nat → Env → Env → Prop) (M : Nat → Env → Env → Nat) (pre : Nat → List Int → List (List Int) → Prop) (post : List Int → List (List Int) → Prop) (v0 v1 : Int) : t63.plain T (presG pre I M) post ⟨[v0, v1], []⟩ = p63 T I M pre post v0 v1 := by kernel_rfl
theorem k63 (T : Tab) (I : Nat → Env → Env → Prop) (M : Nat → Env → Env → Nat) (pre : Nat → List Int → List (List Int) → Prop) (hs : SubSig T c63.sigs) (ht : TotG pre c63.sigs) (hg : T.sig 63 = some s63) (hC : CtAll Try.prog T.fns (presQ pre) c63.sigs) (hk : CpAll Try.prog c63.cps) (hi : ∀ xs ls, allHas (parIvs s63.params) xs → pre 63 xs ls → allHas iv63 xs)
    (h : ∀ (v0 v1 : Int), allHas iv63 [v0, v1] → allL (parLvs s63.params) [] → pre 63 [v0, v1] [] → p63 T I M pre (fun ys _ => ys = T.app 63 [v0, v1] []) v0 v1) : CT Try.prog T.fns (presQ pre) 63 s63 :=
  T.ctg (F := ⟨c63, []⟩) (fuel := 250) vc63 Try.checked.mixed hs ht hg hC hk Try.func63 I M (fun xs ls h1 h2 h3 => ⟨hi xs ls h1 h3, h2⟩) fun xs ls hx hl hp => by
    match xs, ls, hx, hl, hp with
    | [v0, v1], [], hx, hl, hp => rw [q63]; exact h v0 v1 hx hl hp
/-- loop.example/g01242/spec.l03Order -/
def s73 : Sig := ⟨[.ptr [.i .i64, .i .i64], .ptr [.i .i64, .i .i64]], [(false, [.n .i64 (-1) 1])], true⟩
noncomputable def c73 : Cfg := ⟨Try.prog, [], [], [], []⟩
def iv73 : List Iv := [⟨(-9223372036854775808), 9223372036854775807⟩, ⟨(-9223372036854775808), 9223372036854775807⟩, ⟨(-9223372036854775808), 9223372036854775807⟩, ⟨(-9223372036854775808), 9223372036854775807⟩]
def t73 : VC :=
 (.bind (.wrap .i64 (.mul (.var 0) (.var 3)))
 (.bind (.wrap .i64 (.mul (.var 2) (.var 1)))
 (.ite (.lt (.var 4) (.var 5))
  (.fin (.e (.lit (-1)) .nil))
  (.ite (.lt (.var 5) (.var 4))
   (.fin (.e (.lit 1) .nil))
   (.fin (.e (.lit 0) .nil))))))
theorem vc73 : vcOfI ⟨c73, []⟩ iv73 (parLvs s73.params) 250 Try.f73 s73 = t73 := by kernel_rfl
set_option linter.unusedVariables false in
def p73 (T : Tab) (I : Nat → Env → Env → Prop) (M : Nat → Env → Env → Nat) (pre : Nat → List Int → List (List Int) → Prop) (post : List Int → List (List Int) → Prop) (v0 v1 v2 v3 : Int) : Prop :=
 ∀ v4 : Int, v4 = (IntKind.wrap .i64 (v0 * v3)) →
 ∀ v5 : Int, v5 = (IntKind.wrap .i64 (v2 * v1)) →
 ((decide ((v4 : Int) < v5) = true →
  post [(-1)] []) ∧ (decide ((v4 : Int) < v5) = false →
  ((decide ((v5 : Int) < v4) = true →
   post [1] []) ∧ (decide ((v5 : Int) < v4) = false →
   post [0] []))))
theorem q73 (T : Tab) (I : Nat → Env → Env → Prop) (M : Nat → Env → Env → Nat) (pre : Nat → List Int → List (List Int) → Prop) (post : List Int → List (List Int) → Prop) (v0 v1 v2 v3 : Int) : t73.plain T (presG pre I M) post ⟨[v0, v1, v2, v3], []⟩ = p73 T I M pre post v0 v1 v2 v3 := by kernel_rfl
theorem k73 (T : Tab) (I : Nat → Env → Env → Prop) (M : Nat → Env → Env → Nat) (pre : Nat → List Int → List (List Int) → Prop) (hs : SubSig T c73.sigs) (ht : TotG pre c73.sigs) (hg : T.sig 73 = some s73) (hC : CtAll Try.prog T.fns (presQ pre) c73.sigs) (hk : CpAll Try.prog c73.cps) (hi : ∀ xs ls, allHas (parIvs s73.params) xs → pre 73 xs ls → allHas iv73 xs)
    (h : ∀ (v0 v1 v2 v3 : Int), allHas iv73 [v0, v1, v2, v3] → allL (parLvs s73.params) [] → pre 73 [v0, v1, v2, v3] [] → p73 T I M pre (fun ys _ => ys = T.app 73 [v0, v1, v2, v3] []) v0 v1 v2 v3) : CT Try.prog T.fns (presQ pre) 73 s73 :=
  T.ctg (F := ⟨c73, []⟩) (fuel := 250) vc73 Try.checked.mixed hs ht hg hC hk Try.func73 I M (fun xs ls h1 h2 h3 => ⟨hi xs ls h1 h3, h2⟩) fun xs ls hx hl hp => by
    match xs, ls, hx, hl, hp with
    | [v0, v1, v2, v3], [], hx, hl, hp => rw [q73]; exact h v0 v1 v2 v3 hx hl hp
/-- cmp.isNaN[int64] -/
def s102 : Sig := ⟨[.val false [.i .i64]], [(false, [.b])], true⟩
noncomputable def c102 : Cfg := ⟨Try.prog, [], [], [], []⟩
def iv102 : List Iv := [⟨(-9223372036854775808), 9223372036854775807⟩]
def t102 : VC :=
 (.fin (.e (.ite (.not (.eq (.var 0) (.var 0))) (.lit 1) (.lit 0)) .nil))
theorem vc102 : vcOfI ⟨c102, []⟩ iv102 (parLvs s102.params) 250 Try.f102 s102 = t102 := by kernel_rfl
set_option linter.unusedVariables false in
def p102 (T : Tab) (I : Nat → Env → Env → Prop) (M : Nat → Env → Env → Nat) (pre : Nat → List Int → List (List Int) → Prop) (post : List Int → List (List Int) → Prop) (v0 : Int) : Prop :=
 post [(if (!decide ((v0 : Int) = v0)) = true then 1 else 0)] []
theorem q102 (T : Tab) (I : Nat → Env → Env → Prop) (M : Nat → Env → Env → Nat) (pre : Nat → List Int → List (List Int) → Prop) (post : List Int → List (List Int) → Prop) (v0 : Int) : t102.plain T (presG pre I M) post ⟨[v0], []⟩ = p102 T I M pre post v0 := by kernel_rfl
theorem k102 (T : Tab) (I : Nat → Env → Env → Prop) (M : Nat → Env → Env → Nat) (pre : Nat → List Int → List (List Int) → Prop) (hs : SubSig T c102.sigs) (ht : TotG pre c102.sigs) (hg : T.sig 102 = some s102) (hC : CtAll Try.prog T.fns (presQ pre) c102.sigs) (hk : CpAll Try.prog c102.cps) (hi : ∀ xs ls, allHas (parIvs s102.params) xs → pre 102 xs ls → allHas iv102 xs)
    (h : ∀ (v0 : Int), allHas iv102 [v0] → allL (parLvs s102.params) [] → pre 102 [v0] [] → p102 T I M pre (fun ys _ => ys = T.app 102 [v0] []) v0) : CT Try.prog T.fns (presQ pre) 102 s102 :=
  T.ctg (F := ⟨c102, []⟩) (fuel := 250) vc102 Try.checked.mixed hs ht hg hC hk Try.func102 I M (fun xs ls h1 h2 h3 => ⟨hi xs ls h1 h3, h2⟩) fun xs ls hx hl hp => by
    match xs, ls, hx, hl, hp with
    | [v0], [], hx, hl, hp => rw [q102]; exact h v0 hx hl hp
/-- cmp.Compare[int64] -/
def s78 : Sig := ⟨[.val false [.i .i64], .val false [.i .i64]], [(false, [.n .i64 (-1) 1])], true⟩
noncomputable def c78 : Cfg := ⟨Try.prog, [(102, s102)], [], [], []⟩
def iv78 : List Iv := [⟨(-9223372036854775808), 9223372036854775807⟩, ⟨(-9223372036854775808), 9223372036854775807⟩]
def t78 : VC :=
 (.call 102 (.e (.var 0) .nil) 1
 (.call 102 (.e (.var 1) .nil) 1
 (.ite (.eq (.var 2) (.lit 1))
  (.ite (.eq (.var 3) (.lit 1))
   (.fin (.e (.lit 0) .nil))
   (.fin (.e (.lit (-1)) .nil)))
  (.ite (.eq (.var 3) (.lit 1))
   (.fin (.e (.lit 1) .nil))
   (.ite (.lt (.var 0) (.var 1))
    (.fin (.e (.lit (-1)) .nil))
    (.ite (.lt (.var 1) (.var 0))
     (.fin (.e (.lit 1) .nil))
     (.fin (.e (.lit 0) .nil))))))))
theorem vc78 : vcOfI ⟨c78, []⟩ iv78 (parLvs s78.params) 250 Try.f78 s78 = t78 := by kernel_rfl
set_option linter.unusedVariables false in
def p78 (T : Tab) (I : Nat → Env → Env → Prop) (M : Nat → Env → Env → Nat) (pre : Nat → List Int → List (List Int) → Prop) (post : List Int → List (List Int) → Prop) (v0 v1 : Int) : Prop :=
 ∀ v2 : Int, [v2] = T.out 102 1 [v0] →
 ∀ v3 : Int, [v3] = T.out 102 1 [v1] →
 ((decide ((v2 : Int) = 1) = true →
  ((decide ((v3 : Int) = 1) = true →
   post [0] []) ∧ (decide ((v3 : Int) = 1) = false →
   post [(-1)] []))) ∧ (decide ((v2 : Int) = 1) = false →
  ((decide ((v3 : Int) = 1) = true →
   post [1] []) ∧ (decide ((v3 : Int) = 1) = false →
   ((decide ((v0 : Int) < v1) = true →
    post [(-1)] []) ∧ (decide ((v0 : Int) < v1) = false →
    ((decide ((v1 : Int) < v0) = true →
     post [1] []) ∧ (decide ((v1 : Int) < v0) = false →
     post [0] []))))))))
theorem q78 (T : Tab) (I : Nat → Env → Env → Prop) (M : Nat → Env → Env → Nat) (pre : Nat → List Int → List (List Int) → Prop) (post : List Int → List (List Int) → Prop) (v0 v1 : Int) : t78.plain T (presG pre I M) post ⟨[v0, v1], []⟩ = p78 T I M pre post v0 v1 := by kernel_rfl
theorem k78 (T : Tab) (I : Nat → Env → Env → Prop) (M : Nat → Env → Env → Nat) (pre : Nat → List Int → List (List Int) → Prop) (hs : SubSig T c78.sigs) (ht : TotG pre c78.sigs) (hg : T.sig 78 = some s78) (hC : CtAll Try.prog T.fns (presQ pre) c78.sigs) (hk : CpAll Try.prog c78.cps) (hi : ∀ xs ls, allHas (parIvs s78.params) xs → pre 78 xs ls → allHas iv78 xs)
    (h : ∀ (v0 v1 : Int), allHas iv78 [v0, v1] → allL (parLvs s78.params) [] → pre 78 [v0, v1] [] → p78 T I M pre (fun ys _ => ys = T.app 78 [v0, v1] []) v0 v1) : CT Try.prog T.fns (presQ pre) 78 s78 :=
  T.ctg (F := ⟨c78, []⟩) (fuel := 250) vc78 Try.checked.mixed hs ht hg hC hk Try.func78 I M (fun xs ls h1 h2 h3 => ⟨hi xs ls h1 h3, h2⟩) fun xs ls hx hl hp => by
    match xs, ls, hx, hl, hp with
    | [v0, v1], [], hx, hl, hp => rw [q78]; exact h v0 v1 hx hl hp
/-- (loop.example/g01242/impl.Ratio).order -/
def s74 : Sig := ⟨[.val true [.i .i64, .i .i64], .val true [.i .i64, .i .i64]], [(false, [.n .i64 (-1) 1])], true⟩
noncomputable def c74 : Cfg := ⟨Try.prog, [(78, s78)], [], [], []⟩
def iv74 : List Iv := [⟨(-9223372036854775808), 9223372036854775807⟩, ⟨(-9223372036854775808), 9223372036854775807⟩, ⟨(-9223372036854775808), 9223372036854775807⟩, ⟨(-9223372036854775808), 9223372036854775807⟩]
def t74 : VC :=
 (.call 78 (.e (.wrap .i64 (.mul (.var 0) (.var 3))) (.e (.wrap .i64 (.mul (.var 2) (.var 1))) .nil)) 1
 (.fin (.e (.var 4) .nil)))
theorem vc74 : vcOfI ⟨c74, []⟩ iv74 (parLvs s74.params) 250 Try.f74 s74 = t74 := by kernel_rfl
set_option linter.unusedVariables false in
def p74 (T : Tab) (I : Nat → Env → Env → Prop) (M : Nat → Env → Env → Nat) (pre : Nat → List Int → List (List Int) → Prop) (post : List Int → List (List Int) → Prop) (v0 v1 v2 v3 : Int) : Prop :=
 ∀ v4 : Int, [v4] = T.out 78 1 [(IntKind.wrap .i64 (v0 * v3)), (IntKind.wrap .i64 (v2 * v1))] →
 post [v4] []
theorem q74 (T : Tab) (I : Nat → Env → Env → Prop) (M : Nat → Env → Env → Nat) (pre : Nat → List Int → List (List Int) → Prop) (post : List Int → List (List Int) → Prop) (v0 v1 v2 v3 : Int) : t74.plain T (presG pre I M) post ⟨[v0, v1, v2, v3], []⟩ = p74 T I M pre post v0 v1 v2 v3 := by kernel_rfl
theorem k74 (T : Tab) (I : Nat → Env → Env → Prop) (M : Nat → Env → Env → Nat) (pre : Nat → List Int → List (List Int) → Prop) (hs : SubSig T c74.sigs) (ht : TotG pre c74.sigs) (hg : T.sig 74 = some s74) (hC : CtAll Try.prog T.fns (presQ pre) c74.sigs) (hk : CpAll Try.prog c74.cps) (hi : ∀ xs ls, allHas (parIvs s74.params) xs → pre 74 xs ls → allHas iv74 xs)
    (h : ∀ (v0 v1 v2 v3 : Int), allHas iv74 [v0, v1, v2, v3] → allL (parLvs s74.params) [] → pre 74 [v0, v1, v2, v3] [] → p74 T I M pre (fun ys _ => ys = T.app 74 [v0, v1, v2, v3] []) v0 v1 v2 v3) : CT Try.prog T.fns (presQ pre) 74 s74 :=
  T.ctg (F := ⟨c74, []⟩) (fuel := 250) vc74 Try.checked.mixed hs ht hg hC hk Try.func74 I M (fun xs ls h1 h2 h3 => ⟨hi xs ls h1 h3, h2⟩) fun xs ls hx hl hp => by
    match xs, ls, hx, hl, hp with
    | [v0, v1, v2, v3], [], hx, hl, hp => rw [q74]; exact h v0 v1 v2 v3 hx hl hp
/-- loop.example/g01242/laws.eqRatio -/
def s20 : Sig := ⟨[.val true [.i .i64, .i .i64], .val true [.i .i64, .i .i64]], [(false, [.b])], true⟩
noncomputable def c20 : Cfg := ⟨Try.prog, [], [], [], []⟩
def iv20 : List Iv := [⟨(-9223372036854775808), 9223372036854775807⟩, ⟨(-9223372036854775808), 9223372036854775807⟩, ⟨(-9223372036854775808), 9223372036854775807⟩, ⟨(-9223372036854775808), 9223372036854775807⟩]
def t20 : VC :=
 (.ite (.not (.eq (.var 0) (.var 2)))
  (.fin (.e (.lit 0) .nil))
  (.ite (.not (.eq (.var 1) (.var 3)))
   (.fin (.e (.lit 0) .nil))
   (.fin (.e (.lit 1) .nil))))
theorem vc20 : vcOfI ⟨c20, []⟩ iv20 (parLvs s20.params) 250 Try.f20 s20 = t20 := by kernel_rfl
set_option linter.unusedVariables false in
def p20 (T : Tab) (I : Nat → Env → Env → Prop) (M : Nat → Env → Env → Nat) (pre : Nat → List Int → List (List Int) → Prop) (post : List Int → List (List Int) → Prop) (v0 v1 v2 v3 : Int) : Prop :=
 (((!decide ((v0 : Int) = v2)) = true →
  post [0] []) ∧ ((!decide ((v0 : Int) = v2)) = false →
  (((!decide ((v1 : Int) = v3)) = true →
   post [0] []) ∧ ((!decide ((v1 : Int) = v3)) = false →
   post [1] []))))
theorem q20 (T : Tab) (I : Nat → Env → Env → Prop) (M : Nat → Env → Env → Nat) (pre : Nat → List Int → List (List Int) → Prop) (post : List Int → List (List Int) → Prop) (v0 v1 v2 v3 : Int) : t20.plain T (presG pre I M) post ⟨[v0, v1, v2, v3], []⟩ = p20 T I M pre post v0 v1 v2 v3 := by kernel_rfl
theorem k20 (T : Tab) (I : Nat → Env → Env → Prop) (M : Nat → Env → Env → Nat) (pre : Nat → List Int → List (List Int) → Prop) (hs : SubSig T c20.sigs) (ht : TotG pre c20.sigs) (hg : T.sig 20 = some s20) (hC : CtAll Try.prog T.fns (presQ pre) c20.sigs) (hk : CpAll Try.prog c20.cps) (hi : ∀ xs ls, allHas (parIvs s20.params) xs → pre 20 xs ls → allHas iv20 xs)
    (h : ∀ (v0 v1 v2 v3 : Int), allHas iv20 [v0, v1, v2, v3] → allL (parLvs s20.params) [] → pre 20 [v0, v1, v2, v3] [] → p20 T I M pre (fun ys _ => ys = T.app 20 [v0, v1, v2, v3] []) v0 v1 v2 v3) : CT Try.prog T.fns (presQ pre) 20 s20 :=
  T.ctg (F := ⟨c20, []⟩) (fuel := 250) vc20 Try.checked.mixed hs ht hg hC hk Try.func20 I M (fun xs ls h1 h2 h3 => ⟨hi xs ls h1 h3, h2⟩) fun xs ls hx hl hp => by
    match xs, ls, hx, hl, hp with
    | [v0, v1, v2, v3], [], hx, hl, hp => rw [q20]; exact h v0 v1 v2 v3 hx hl hp
/-- loop.example/g01242/spec.SumEight -/
def s40 : Sig := ⟨[], [(true, [.i .i64, .i .i64, .i .i64, .i .i64, .i .i64, .i .i64, .i .i64, .i .i64])], true⟩
noncomputable def c40 : Cfg := ⟨Try.prog, [], [], [], []⟩
def iv40 : List Iv := []
def t40 : VC :=
 (.fin (.e (.lit 0) (.e (.lit 1) (.e (.lit 1) (.e (.lit 0) (.e (.lit 0) (.e (.lit 0) (.e (.lit 0) (.e (.lit 1) .nil)))))))))
theorem vc40 : vcOfI ⟨c40, []⟩ iv40 (parLvs s40.params) 250 Try.f40 s40 = t40 := by kernel_rfl
set_option linter.unusedVariables false in
def p40 (T : Tab) (I : Nat → Env → Env → Prop) (M : Nat → Env → Env → Nat) (pre : Nat → List Int → List (List Int) → Prop) (post : List Int → List (List Int) → Prop) : Prop :=
 post [0, 1, 1, 0, 0, 0, 0, 1] []
theorem q40 (T : Tab) (I : Nat → Env → Env → Prop) (M : Nat → Env → Env → Nat) (pre : Nat → List Int → List (List Int) → Prop) (post : List Int → List (List Int) → Prop) : t40.plain T (presG pre I M) post ⟨[], []⟩ = p40 T I M pre post  := by kernel_rfl
theorem k40 (T : Tab) (I : Nat → Env → Env → Prop) (M : Nat → Env → Env → Nat) (pre : Nat → List Int → List (List Int) → Prop) (hs : SubSig T c40.sigs) (ht : TotG pre c40.sigs) (hg : T.sig 40 = some s40) (hC : CtAll Try.prog T.fns (presQ pre) c40.sigs) (hk : CpAll Try.prog c40.cps) (hi : ∀ xs ls, allHas (parIvs s40.params) xs → pre 40 xs ls → allHas iv40 xs)
    (h : ∀ (_ : Unit), allHas iv40 [] → allL (parLvs s40.params) [] → pre 40 [] [] → p40 T I M pre (fun ys _ => ys = T.app 40 [] []) ) : CT Try.prog T.fns (presQ pre) 40 s40 :=
  T.ctg (F := ⟨c40, []⟩) (fuel := 250) vc40 Try.checked.mixed hs ht hg hC hk Try.func40 I M (fun xs ls h1 h2 h3 => ⟨hi xs ls h1 h3, h2⟩) fun xs ls hx hl hp => by
    match xs, ls, hx, hl, hp with
    | [], [], hx, hl, hp => rw [q40]; exact h () hx hl hp
/-- loop.example/g01242/impl.SumEight -/
def s41 : Sig := ⟨[], [(true, [.i .i64, .i .i64, .i .i64, .i .i64, .i .i64, .i .i64, .i .i64, .i .i64])], true⟩
noncomputable def c41 : Cfg := ⟨Try.prog, [], [], [], []⟩
def iv41 : List Iv := []
def t41 : VC :=
 (.fin (.e (.lit 0) (.e (.lit 1) (.e (.lit 1) (.e (.lit 0) (.e (.lit 0) (.e (.lit 0) (.e (.lit 0) (.e (.lit 1) .nil)))))))))
theorem vc41 : vcOfI ⟨c41, []⟩ iv41 (parLvs s41.params) 250 Try.f41 s41 = t41 := by kernel_rfl
set_option linter.unusedVariables false in
def p41 (T : Tab) (I : Nat → Env → Env → Prop) (M : Nat → Env → Env → Nat) (pre : Nat → List Int → List (List Int) → Prop) (post : List Int → List (List Int) → Prop) : Prop :=
 post [0, 1, 1, 0, 0, 0, 0, 1] []
theorem q41 (T : Tab) (I : Nat → Env → Env → Prop) (M : Nat → Env → Env → Nat) (pre : Nat → List Int → List (List Int) → Prop) (post : List Int → List (List Int) → Prop) : t41.plain T (presG pre I M) post ⟨[], []⟩ = p41 T I M pre post  := by kernel_rfl
theorem k41 (T : Tab) (I : Nat → Env → Env → Prop) (M : Nat → Env → Env → Nat) (pre : Nat → List Int → List (List Int) → Prop) (hs : SubSig T c41.sigs) (ht : TotG pre c41.sigs) (hg : T.sig 41 = some s41) (hC : CtAll Try.prog T.fns (presQ pre) c41.sigs) (hk : CpAll Try.prog c41.cps) (hi : ∀ xs ls, allHas (parIvs s41.params) xs → pre 41 xs ls → allHas iv41 xs)
    (h : ∀ (_ : Unit), allHas iv41 [] → allL (parLvs s41.params) [] → pre 41 [] [] → p41 T I M pre (fun ys _ => ys = T.app 41 [] []) ) : CT Try.prog T.fns (presQ pre) 41 s41 :=
  T.ctg (F := ⟨c41, []⟩) (fuel := 250) vc41 Try.checked.mixed hs ht hg hC hk Try.func41 I M (fun xs ls h1 h2 h3 => ⟨hi xs ls h1 h3, h2⟩) fun xs ls hx hl hp => by
    match xs, ls, hx, hl, hp with
    | [], [], hx, hl, hp => rw [q41]; exact h () hx hl hp
/-- loop.example/g01242/spec.ProductEight -/
def s43 : Sig := ⟨[], [(true, [.i .i64, .i .i64, .i .i64, .i .i64, .i .i64, .i .i64, .i .i64, .i .i64])], true⟩
noncomputable def c43 : Cfg := ⟨Try.prog, [], [], [], []⟩
def iv43 : List Iv := []
def t43 : VC :=
 (.fin (.e (.lit 1) (.e (.lit 0) (.e (.lit 0) (.e (.lit 0) (.e (.lit 0) (.e (.lit 0) (.e (.lit 0) (.e (.lit 1) .nil)))))))))
theorem vc43 : vcOfI ⟨c43, []⟩ iv43 (parLvs s43.params) 250 Try.f43 s43 = t43 := by kernel_rfl
set_option linter.unusedVariables false in
def p43 (T : Tab) (I : Nat → Env → Env → Prop) (M : Nat → Env → Env → Nat) (pre : Nat → List Int → List (List Int) → Prop) (post : List Int → List (List Int) → Prop) : Prop :=
 post [1, 0, 0, 0, 0, 0, 0, 1] []
theorem q43 (T : Tab) (I : Nat → Env → Env → Prop) (M : Nat → Env → Env → Nat) (pre : Nat → List Int → List (List Int) → Prop) (post : List Int → List (List Int) → Prop) : t43.plain T (presG pre I M) post ⟨[], []⟩ = p43 T I M pre post  := by kernel_rfl
theorem k43 (T : Tab) (I : Nat → Env → Env → Prop) (M : Nat → Env → Env → Nat) (pre : Nat → List Int → List (List Int) → Prop) (hs : SubSig T c43.sigs) (ht : TotG pre c43.sigs) (hg : T.sig 43 = some s43) (hC : CtAll Try.prog T.fns (presQ pre) c43.sigs) (hk : CpAll Try.prog c43.cps) (hi : ∀ xs ls, allHas (parIvs s43.params) xs → pre 43 xs ls → allHas iv43 xs)
    (h : ∀ (_ : Unit), allHas iv43 [] → allL (parLvs s43.params) [] → pre 43 [] [] → p43 T I M pre (fun ys _ => ys = T.app 43 [] []) ) : CT Try.prog T.fns (presQ pre) 43 s43 :=
  T.ctg (F := ⟨c43, []⟩) (fuel := 250) vc43 Try.checked.mixed hs ht hg hC hk Try.func43 I M (fun xs ls h1 h2 h3 => ⟨hi xs ls h1 h3, h2⟩) fun xs ls hx hl hp => by
    match xs, ls, hx, hl, hp with
    | [], [], hx, hl, hp => rw [q43]; exact h () hx hl hp
/-- loop.example/g01242/impl.ProductEight -/
def s44 : Sig := ⟨[], [(true, [.i .i64, .i .i64, .i .i64, .i .i64, .i .i64, .i .i64, .i .i64, .i .i64])], true⟩
noncomputable def c44 : Cfg := ⟨Try.prog, [], [], [], []⟩
def iv44 : List Iv := []
def t44 : VC :=
 (.fin (.e (.lit 1) (.e (.lit 0) (.e (.lit 0) (.e (.lit 0) (.e (.lit 0) (.e (.lit 0) (.e (.lit 0) (.e (.lit 1) .nil)))))))))
theorem vc44 : vcOfI ⟨c44, []⟩ iv44 (parLvs s44.params) 250 Try.f44 s44 = t44 := by kernel_rfl
set_option linter.unusedVariables false in
def p44 (T : Tab) (I : Nat → Env → Env → Prop) (M : Nat → Env → Env → Nat) (pre : Nat → List Int → List (List Int) → Prop) (post : List Int → List (List Int) → Prop) : Prop :=
 post [1, 0, 0, 0, 0, 0, 0, 1] []
theorem q44 (T : Tab) (I : Nat → Env → Env → Prop) (M : Nat → Env → Env → Nat) (pre : Nat → List Int → List (List Int) → Prop) (post : List Int → List (List Int) → Prop) : t44.plain T (presG pre I M) post ⟨[], []⟩ = p44 T I M pre post  := by kernel_rfl
theorem k44 (T : Tab) (I : Nat → Env → Env → Prop) (M : Nat → Env → Env → Nat) (pre : Nat → List Int → List (List Int) → Prop) (hs : SubSig T c44.sigs) (ht : TotG pre c44.sigs) (hg : T.sig 44 = some s44) (hC : CtAll Try.prog T.fns (presQ pre) c44.sigs) (hk : CpAll Try.prog c44.cps) (hi : ∀ xs ls, allHas (parIvs s44.params) xs → pre 44 xs ls → allHas iv44 xs)
    (h : ∀ (_ : Unit), allHas iv44 [] → allL (parLvs s44.params) [] → pre 44 [] [] → p44 T I M pre (fun ys _ => ys = T.app 44 [] []) ) : CT Try.prog T.fns (presQ pre) 44 s44 :=
  T.ctg (F := ⟨c44, []⟩) (fuel := 250) vc44 Try.checked.mixed hs ht hg hC hk Try.func44 I M (fun xs ls h1 h2 h3 => ⟨hi xs ls h1 h3, h2⟩) fun xs ls hx hl hp => by
    match xs, ls, hx, hl, hp with
    | [], [], hx, hl, hp => rw [q44]; exact h () hx hl hp
/-- loop.example/g01242/laws.eqInt64A4 -/
def s88 : Sig := ⟨[.val true [.i .i64, .i .i64, .i .i64, .i .i64], .val true [.i .i64, .i .i64, .i .i64, .i .i64]], [(false, [.b])], true⟩
noncomputable def c88 : Cfg := ⟨Try.prog, [], [], [], []⟩
def iv88 : List Iv := [⟨(-9223372036854775808), 9223372036854775807⟩, ⟨(-9223372036854775808), 9223372036854775807⟩, ⟨(-9223372036854775808), 9223372036854775807⟩, ⟨(-9223372036854775808), 9223372036854775807⟩, ⟨(-9223372036854775808), 9223372036854775807⟩, ⟨(-9223372036854775808), 9223372036854775807⟩, ⟨(-9223372036854775808), 9223372036854775807⟩, ⟨(-9223372036854775808), 9223372036854775807⟩]
def t88 : VC :=
 (.ite (.not (.eq (.var 0) (.var 4)))
  (.fin (.e (.lit 0) .nil))
  (.ite (.not (.eq (.var 1) (.var 5)))
   (.fin (.e (.lit 0) .nil))
   (.ite (.not (.eq (.var 2) (.var 6)))
    (.fin (.e (.lit 0) .nil))
    (.ite (.not (.eq (.var 3) (.var 7)))
     (.fin (.e (.lit 0) .nil))
     (.fin (.e (.lit 1) .nil))))))
theorem vc88 : vcOfI ⟨c88, []⟩ iv88 (parLvs s88.params) 250 Try.f88 s88 = t88 := by kernel_rfl
set_option linter.unusedVariables false in
def p88 (T : Tab) (I : Nat → Env → Env → Prop) (M : Nat → Env → Env → Nat) (pre : Nat → List Int → List (List Int) → Prop) (post : List Int → List (List Int) → Prop) (v0 v1 v2 v3 v4 v5 v6 v7 : Int) : Prop :=
 (((!decide ((v0 : Int) = v4)) = true →
  post [0] []) ∧ ((!decide ((v0 : Int) = v4)) = false →
  (((!decide ((v1 : Int) = v5)) = true →
   post [0] []) ∧ ((!decide ((v1 : Int) = v5)) = false →
   (((!decide ((v2 : Int) = v6)) = true →
    post [0] []) ∧ ((!decide ((v2 : Int) = v6)) = false →
    (((!decide ((v3 : Int) = v7)) = true →
     post [0] []) ∧ ((!decide ((v3 : Int) = v7)) = false →
     post [1] []))))))))
theorem q88 (T : Tab) (I : Nat → Env → Env → Prop) (M : Nat → Env → Env → Nat) (pre : Nat → List Int → List (List Int) → Prop) (post : List Int → List (List Int) → Prop) (v0 v1 v2 v3 v4 v5 v6 v7 : Int) : t88.plain T (presG pre I M) post ⟨[v0, v1, v2, v3, v4, v5, v6, v7], []⟩ = p88 T I M pre post v0 v1 v2 v3 v4 v5 v6 v7 := by kernel_rfl
theorem k88 (T : Tab) (I : Nat → Env → Env → Prop) (M : Nat → Env → Env → Nat) (pre : Nat → List Int → List (List Int) → Prop) (hs : SubSig T c88.sigs) (ht : TotG pre c88.sigs) (hg : T.sig 88 = some s88) (hC : CtAll Try.prog T.fns (presQ pre) c88.sigs) (hk : CpAll Try.prog c88.cps) (hi : ∀ xs ls, allHas (parIvs s88.params) xs → pre 88 xs ls → allHas iv88 xs)
    (h : ∀ (v0 v1 v2 v3 v4 v5 v6 v7 : Int), allHas iv88 [v0, v1, v2, v3, v4, v5, v6, v7] → allL (parLvs s88.params) [] → pre 88 [v0, v1, v2, v3, v4, v5, v6, v7] [] → p88 T I M pre (fun ys _ => ys = T.app 88 [v0, v1, v2, v3, v4, v5, v6, v7] []) v0 v1 v2 v3 v4 v5 v6 v7) : CT Try.prog T.fns (presQ pre) 88 s88 :=
  T.ctg (F := ⟨c88, []⟩) (fuel := 250) vc88 Try.checked.mixed hs ht hg hC hk Try.func88 I M (fun xs ls h1 h2 h3 => ⟨hi xs ls h1 h3, h2⟩) fun xs ls hx hl hp => by
    match xs, ls, hx, hl, hp with
    | [v0, v1, v2, v3, v4, v5, v6, v7], [], hx, hl, hp => rw [q88]; exact h v0 v1 v2 v3 v4 v5 v6 v7 hx hl hp
/-- loop.example/g01242/laws.eqEight -/
def s42 : Sig := ⟨[.val true [.i .i64, .i .i64, .i .i64, .i .i64, .i .i64, .i .i64, .i .i64, .i .i64], .val true [.i .i64, .i .i64, .i .i64, .i .i64, .i .i64, .i .i64, .i .i64, .i .i64]], [(false, [.b])], true⟩
noncomputable def c42 : Cfg := ⟨Try.prog, [(88, s88)], [], [], []⟩
def iv42 : List Iv := [⟨(-9223372036854775808), 9223372036854775807⟩, ⟨(-9223372036854775808), 9223372036854775807⟩, ⟨(-9223372036854775808), 9223372036854775807⟩, ⟨(-9223372036854775808), 9223372036854775807⟩, ⟨(-9223372036854775808), 9223372036854775807⟩, ⟨(-9223372036854775808), 9223372036854775807⟩, ⟨(-9223372036854775808), 9223372036854775807⟩, ⟨(-9223372036854775808), 9223372036854775807⟩, ⟨(-9223372036854775808), 9223372036854775807⟩, ⟨(-9223372036854775808), 9223372036854775807⟩, ⟨(-9223372036854775808), 9223372036854775807⟩, ⟨(-9223372036854775808), 9223372036854775807⟩, ⟨(-9223372036854775808), 9223372036854775807⟩, ⟨(-9223372036854775808), 9223372036854775807⟩, ⟨(-9223372036854775808), 9223372036854775807⟩, ⟨(-9223372036854775808), 9223372036854775807⟩]
def t42 : VC :=
 (.call 88 (.e (.var 0) (.e (.var 1) (.e (.var 2) (.e (.var 3) (.e (.var 8) (.e (.var 9) (.e (.var 10) (.e (.var 11) .nil)))))))) 1
 (.ite (.not (.eq (.var 16) (.lit 1)))
  (.fin (.e (.lit 0) .nil))
  (.call 88 (.e (.var 4) (.e (.var 5) (.e (.var 6) (.e (.var 7) (.e (.var 12) (.e (.var 13) (.e (.var 14) (.e (.var 15) .nil)))))))) 1
  (.ite (.not (.eq (.var 17) (.lit 1)))
   (.fin (.e (.lit 0) .nil))
   (.fin (.e (.lit 1) .nil))))))
theorem vc42 : vcOfI ⟨c42, []⟩ iv42 (parLvs s42.params) 250 Try.f42 s42 = t42 := by kernel_rfl
set_option linter.unusedVariables false in
def p42 (T : Tab) (I : Nat → Env → Env → Prop) (M : Nat → Env → Env → Nat) (pre : Nat → List Int → List (List Int) → Prop) (post : List Int → List (List Int) → Prop) (v0 v1 v2 v3 v4 v5 v6 v7 v8 v9 v10 v11 v12 v13 v14 v15 : Int) : Prop :=
 ∀ v16 : Int, [v16] = T.out 88 1 [v0, v1, v2, v3, v8, v9, v10, v11] →
 (((!decide ((v16 : Int) = 1)) = true →
  post [0] []) ∧ ((!decide ((v16 : Int) = 1)) = false →
  ∀ v17 : Int, [v17] = T.out 88 1 [v4, v5, v6, v7, v12, v13, v14, v15] →
  (((!decide ((v17 : Int) = 1)) = true →
   post [0] []) ∧ ((!decide ((v17 : Int) = 1)) = false →
   post [1] []))))
theorem q42 (T : Tab) (I : Nat → Env → Env → Prop) (M : Nat → Env → Env → Nat) (pre : Nat → List Int → List (List Int) → Prop) (post : List Int → List (List Int) → Prop) (v0 v1 v2 v3 v4 v5 v6 v7 v8 v9 v10 v11 v12 v13 v14 v15 : Int) : t42.plain T (presG pre I M) post ⟨[v0, v1, v2, v3, v4, v5, v6, v7, v8, v9, v10, v11, v12, v13, v14, v15], []⟩ = p42 T I M pre post v0 v1 v2 v3 v4 v5 v6 v7 v8 v9 v10 v11 v12 v13 v14 v15 := by kernel_rfl
theorem k42 (T : Tab) (I : Nat → Env → Env → Prop) (M : Nat → Env → Env → Nat) (pre : Nat → List Int → List (List Int) → Prop) (hs : SubSig T c42.sigs) (ht : TotG pre c42.sigs) (hg : T.sig 42 = some s42) (hC : CtAll Try.prog T.fns (presQ pre) c42.sigs) (hk : CpAll Try.prog c42.cps) (hi : ∀ xs ls, allHas (parIvs s42.params) xs → pre 42 xs ls → allHas iv42 xs)
    (h : ∀ (v0 v1 v2 v3 v4 v5 v6 v7 v8 v9 v10 v11 v12 v13 v14 v15 : Int), allHas iv42 [v0, v1, v2, v3, v4, v5, v6, v7, v8, v9, v10, v11, v12, v13, v14, v15] → allL (parLvs s42.params) [] → pre 42 [v0, v1, v2, v3, v4, v5, v6, v7, v8, v9, v10, v11, v12, v13, v14, v15] [] → p42 T I M pre (fun ys _ => ys = T.app 42 [v0, v1, v2, v3, v4, v5, v6, v7, v8, v9, v10, v11, v12, v13, v14, v15] []) v0 v1 v2 v3 v4 v5 v6 v7 v8 v9 v10 v11 v12 v13 v14 v15) : CT Try.prog T.fns (presQ pre) 42 s42 :=
  T.ctg (F := ⟨c42, []⟩) (fuel := 250) vc42 Try.checked.mixed hs ht hg hC hk Try.func42 I M (fun xs ls h1 h2 h3 => ⟨hi xs ls h1 h3, h2⟩) fun xs ls hx hl hp => by
    match xs, ls, hx, hl, hp with
    | [v0, v1, v2, v3, v4, v5, v6, v7, v8, v9, v10, v11, v12, v13, v14, v15], [], hx, hl, hp => rw [q42]; exact h v0 v1 v2 v3 v4 v5 v6 v7 v8 v9 v10 v11 v12 v13 v14 v15 hx hl hp
/-- loop.example/g01242/laws.FnExactSumEight -/
def s10 : Sig := ⟨[], [(false, [.b])], true⟩
noncomputable def c10 : Cfg := ⟨Try.prog, [(40, s40), (41, s41), (42, s42)], [], [], []⟩
def iv10 : List Iv := []
def t10 : VC :=
 (.call 40 .nil 8
 (.call 41 .nil 8
 (.call 42 (.e (.var 8) (.e (.var 9) (.e (.var 10) (.e (.var 11) (.e (.var 12) (.e (.var 13) (.e (.var 14) (.e (.var 15) (.e (.var 0) (.e (.var 1) (.e (.var 2) (.e (.var 3) (.e (.var 4) (.e (.var 5) (.e (.var 6) (.e (.var 7) .nil)))))))))))))))) 1
 (.ite (.not (.eq (.var 16) (.lit 1)))
  (.fin (.e (.lit 0) .nil))
  (.fin (.e (.lit 1) .nil))))))
theorem vc10 : vcOfI ⟨c10, []⟩ iv10 (parLvs s10.params) 250 Try.f10 s10 = t10 := by kernel_rfl
set_option linter.unusedVariables false in
def p10 (T : Tab) (I : Nat → Env → Env → Prop) (M : Nat → Env → Env → Nat) (pre : Nat → List Int → List (List Int) → Prop) (post : List Int → List (List Int) → Prop) : Prop :=
 ∀ v0 v1 v2 v3 v4 v5 v6 v7 : Int, [v0, v1, v2, v3, v4, v5, v6, v7] = T.out 40 8 [] →
 ∀ v8 v9 v10 v11 v12 v13 v14 v15 : Int, [v8, v9, v10, v11, v12, v13, v14, v15] = T.out 41 8 [] →
 ∀ v16 : Int, [v16] = T.out 42 1 [v8, v9, v10, v11, v12, v13, v14, v15, v0, v1, v2, v3, v4, v5, v6, v7] →
 (((!decide ((v16 : Int) = 1)) = true →
  post [0] []) ∧ ((!decide ((v16 : Int) = 1)) = false →
  post [1] []))
theorem q10 (T : Tab) (I : Nat → Env → Env → Prop) (M : Nat → Env → Env → Nat) (pre : Nat → List Int → List (List Int) → Prop) (post : List Int → List (List Int) → Prop) : t10.plain T (presG pre I M) post ⟨[], []⟩ = p10 T I M pre post  := by kernel_rfl
theorem k10 (T : Tab) (I : Nat → Env → Env → Prop) (M : Nat → Env → Env → Nat) (pre : Nat → List Int → List (List Int) → Prop) (hs : SubSig T c10.sigs) (ht : TotG pre c10.sigs) (hg : T.sig 10 = some s10) (hC : CtAll Try.prog T.fns (presQ pre) c10.sigs) (hk : CpAll Try.prog c10.cps) (hi : ∀ xs ls, allHas (parIvs s10.params) xs → pre 10 xs ls → allHas iv10 xs)
    (h : ∀ (_ : Unit), allHas iv10 [] → allL (parLvs s10.params) [] → pre 10 [] [] → p10 T I M pre (fun ys _ => ys = T.app 10 [] []) ) : CT Try.prog T.fns (presQ pre) 10 s10 :=
  T.ctg (F := ⟨c10, []⟩) (fuel := 250) vc10 Try.checked.mixed hs ht hg hC hk Try.func10 I M (fun xs ls h1 h2 h3 => ⟨hi xs ls h1 h3, h2⟩) fun xs ls hx hl hp => by
    match xs, ls, hx, hl, hp with
    | [], [], hx, hl, hp => rw [q10]; exact h () hx hl hp
/-- loop.example/g01242/laws.FnExactProductEight -/
def s11 : Sig := ⟨[], [(false, [.b])], true⟩
noncomputable def c11 : Cfg := ⟨Try.prog, [(43, s43), (44, s44), (42, s42)], [], [], []⟩
def iv11 : List Iv := []
def t11 : VC :=
 (.call 43 .nil 8
 (.call 44 .nil 8
 (.call 42 (.e (.var 8) (.e (.var 9) (.e (.var 10) (.e (.var 11) (.e (.var 12) (.e (.var 13) (.e (.var 14) (.e (.var 15) (.e (.var 0) (.e (.var 1) (.e (.var 2) (.e (.var 3) (.e (.var 4) (.e (.var 5) (.e (.var 6) (.e (.var 7) .nil)))))))))))))))) 1
 (.ite (.not (.eq (.var 16) (.lit 1)))
  (.fin (.e (.lit 0) .nil))
  (.fin (.e (.lit 1) .nil))))))
theorem vc11 : vcOfI ⟨c11, []⟩ iv11 (parLvs s11.params) 250 Try.f11 s11 = t11 := by kernel_rfl
set_option linter.unusedVariables false in
def p11 (T : Tab) (I : Nat → Env → Env → Prop) (M : Nat → Env → Env → Nat) (pre : Nat → List Int → List (List Int) → Prop) (post : List Int → List (List Int) → Prop) : Prop :=
 ∀ v0 v1 v2 v3 v4 v5 v6 v7 : Int, [v0, v1, v2, v3, v4, v5, v6, v7] = T.out 43 8 [] →
 ∀ v8 v9 v10 v11 v12 v13 v14 v15 : Int, [v8, v9, v10, v11, v12, v13, v14, v15] = T.out 44 8 [] →
 ∀ v16 : Int, [v16] = T.out 42 1 [v8, v9, v10, v11, v12, v13, v14, v15, v0, v1, v2, v3, v4, v5, v6, v7] →
 (((!decide ((v16 : Int) = 1)) = true →
  post [0] []) ∧ ((!decide ((v16 : Int) = 1)) = false →
  post [1] []))
theorem q11 (T : Tab) (I : Nat → Env → Env → Prop) (M : Nat → Env → Env → Nat) (pre : Nat → List Int → List (List Int) → Prop) (post : List Int → List (List Int) → Prop) : t11.plain T (presG pre I M) post ⟨[], []⟩ = p11 T I M pre post  := by kernel_rfl
theorem k11 (T : Tab) (I : Nat → Env → Env → Prop) (M : Nat → Env → Env → Nat) (pre : Nat → List Int → List (List Int) → Prop) (hs : SubSig T c11.sigs) (ht : TotG pre c11.sigs) (hg : T.sig 11 = some s11) (hC : CtAll Try.prog T.fns (presQ pre) c11.sigs) (hk : CpAll Try.prog c11.cps) (hi : ∀ xs ls, allHas (parIvs s11.params) xs → pre 11 xs ls → allHas iv11 xs)
    (h : ∀ (_ : Unit), allHas iv11 [] → allL (parLvs s11.params) [] → pre 11 [] [] → p11 T I M pre (fun ys _ => ys = T.app 11 [] []) ) : CT Try.prog T.fns (presQ pre) 11 s11 :=
  T.ctg (F := ⟨c11, []⟩) (fuel := 250) vc11 Try.checked.mixed hs ht hg hC hk Try.func11 I M (fun xs ls h1 h2 h3 => ⟨hi xs ls h1 h3, h2⟩) fun xs ls hx hl hp => by
    match xs, ls, hx, hl, hp with
    | [], [], hx, hl, hp => rw [q11]; exact h () hx hl hp
end Go.Proofs.Ytjpcmjgogdemoaa.Sx
