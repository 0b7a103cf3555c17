import Derived.Test.YtfpodondpanmaaaSxY
import Derived.Test.YtfpodondpanmaaaA1
import Derived.Test.YtfpodondpanmaaaChecked
import Derived.KernelRfl
namespace Go.Proofs.Ytfpodondpanmaaa.Sx
open Go Go.RowKit
/-- loop.example/g01242/spec.l00In -/
def s62 : Sig := ⟨[.val false [.i .i64], .val false [.i .i64], .val false [.i .i64]], [(false, [.b])], true⟩
noncomputable def c62 : Cfg := ⟨Try.prog, [], [], [], []⟩
def iv62 : List Iv := [⟨(-9223372036854775808), 9223372036854775807⟩, ⟨(-9223372036854775808), 9223372036854775807⟩, ⟨(-9223372036854775808), 9223372036854775807⟩]
def t62 : VC :=
 (.ite (.le (.var 1) (.var 0))
  (.fin (.e (.ite (.le (.var 0) (.var 2)) (.lit 1) (.lit 0)) .nil))
  (.fin (.e (.lit 0) .nil)))
theorem vc62 : vcOfI ⟨c62, []⟩ iv62 (parLvs s62.params) 250 Try.f62 s62 = t62 := by kernel_rfl
set_option linter.unusedVariables false in
def p62 (T : Tab) (I : Nat → Env → Env → Prop) (M : Nat → Env → Env → Nat) (pre : Nat → List Int → List (List Int) → Prop) (post : List Int → List (List Int) → Prop) (v0 v1 v2 : Int) : Prop :=
 ((decide ((v1 : Int) ≤ v0) = true →
  post [(if decide ((v0 : Int) ≤ v2) = true then 1 else 0)] []) ∧ (decide ((v1 : Int) ≤ v0) = false →
  post [0] []))
theorem q62 (T : Tab) (I : Nat → Env → Env → Prop) (M : Nat → Env → Env → Nat) (pre : Nat → List Int → List (List Int) → Prop) (post : List Int → List (List Int) → Prop) (v0 v1 v2 : Int) : t62.plain T (presG pre I M) post ⟨[v0, v1, v2], []⟩ = p62 T I M pre post v0 v1 v2 := by kernel_rfl
theorem k62 (T : Tab) (I : Nat → Env → Env → Prop) (M : Nat → Env → Env → Nat) (pre : Nat → List Int → List (List Int) → Prop) (hs : SubSig T c62.sigs) (ht : TotG pre c62.sigs) (hg : T.sig 62 = some s62) (hC : CtAll Try.prog T.fns (presQ pre) c62.sigs) (hk : CpAll Try.prog c62.cps) (hi : ∀ xs ls, allHas (parIvs s62.params) xs → pre 62 xs ls → allHas iv62 xs)
    (h : ∀ (v0 v1 v2 : Int), allHas iv62 [v0, v1, v2] → allL (parLvs s62.params) [] → pre 62 [v0, v1, v2] [] → p62 T I M pre (fun ys _ => ys = T.app 62 [v0, v1, v2] []) v0 v1 v2) : CT Try.prog T.fns (presQ pre) 62 s62 :=
  T.ctg (F := ⟨c62, []⟩) (fuel := 250) vc62 Try.checked.mixed hs ht hg hC hk Try.func62 I M (fun xs ls h1 h2 h3 => ⟨hi xs ls h1 h3, h2⟩) fun xs ls hx hl hp => by
    match xs, ls, hx, hl, hp with
    | [v0, v1, v2], [], hx, hl, hp => rw [q62]; exact h v0 v1 v2 hx hl hp
/-- loop.example/g01242/spec.l03Size -/
def s74 : Sig := ⟨[.val false [.i .i64]], [(false, [.i .i64])], true⟩
noncomputable def c74 : Cfg := ⟨Try.prog, [], [], [], []⟩
def iv74 : List Iv := [⟨(-9223372036854775808), 9223372036854775807⟩]
def t74 : VC :=
 (.ite (.lt (.var 0) (.lit 0))
  (.bind (.wrap .i64 (.sub (.lit 0) (.var 0)))
  (.fin (.e (.var 1) .nil)))
  (.fin (.e (.var 0) .nil)))
theorem vc74 : vcOfI ⟨c74, []⟩ iv74 (parLvs s74.params) 250 Try.f74 s74 = t74 := by kernel_rfl
set_option linter.unusedVariables false in
def p74 (T : Tab) (I : Nat → Env → Env → Prop) (M : Nat → Env → Env → Nat) (pre : Nat → List Int → List (List Int) → Prop) (post : List Int → List (List Int) → Prop) (v0 : Int) : Prop :=
 ((decide ((v0 : Int) < 0) = true →
  ∀ v1 : Int, v1 = (IntKind.wrap .i64 (0 - v0)) →
  post [v1] []) ∧ (decide ((v0 : Int) < 0) = false →
  post [v0] []))
theorem q74 (T : Tab) (I : Nat → Env → Env → Prop) (M : Nat → Env → Env → Nat) (pre : Nat → List Int → List (List Int) → Prop) (post : List Int → List (List Int) → Prop) (v0 : Int) : t74.plain T (presG pre I M) post ⟨[v0], []⟩ = p74 T I M pre post v0 := by kernel_rfl
theorem k74 (T : Tab) (I : Nat → Env → Env → Prop) (M : Nat → Env → Env → Nat) (pre : Nat → List Int → List (List Int) → Prop) (hs : SubSig T c74.sigs) (ht : TotG pre c74.sigs) (hg : T.sig 74 = some s74) (hC : CtAll Try.prog T.fns (presQ pre) c74.sigs) (hk : CpAll Try.prog c74.cps) (hi : ∀ xs ls, allHas (parIvs s74.params) xs → pre 74 xs ls → allHas iv74 xs)
    (h : ∀ (v0 : Int), allHas iv74 [v0] → allL (parLvs s74.params) [] → pre 74 [v0] [] → p74 T I M pre (fun ys _ => ys = T.app 74 [v0] []) v0) : CT Try.prog T.fns (presQ pre) 74 s74 :=
  T.ctg (F := ⟨c74, []⟩) (fuel := 250) vc74 Try.checked.mixed hs ht hg hC hk Try.func74 I M (fun xs ls h1 h2 h3 => ⟨hi xs ls h1 h3, h2⟩) fun xs ls hx hl hp => by
    match xs, ls, hx, hl, hp with
    | [v0], [], hx, hl, hp => rw [q74]; exact h v0 hx hl hp
/-- loop.example/g01242/impl.isWithin -/
def s44 : Sig := ⟨[.val false [.i .i64], .val false [.i .i64]], [(false, [.b])], true⟩
noncomputable def c44 : Cfg := ⟨Try.prog, [], [], [], []⟩
def iv44 : List Iv := [⟨(-9223372036854775808), 9223372036854775807⟩, ⟨(-9223372036854775808), 9223372036854775807⟩]
def t44 : VC :=
 (.ite (.le (.wrap .i64 (.sub (.lit 0) (.var 1))) (.var 0))
  (.fin (.e (.ite (.le (.var 0) (.var 1)) (.lit 1) (.lit 0)) .nil))
  (.fin (.e (.lit 0) .nil)))
theorem vc44 : vcOfI ⟨c44, []⟩ iv44 (parLvs s44.params) 250 Try.f44 s44 = t44 := by kernel_rfl
set_option linter.unusedVariables false in
def p44 (T : Tab) (I : Nat → Env → Env → Prop) (M : Nat → Env → Env → Nat) (pre : Nat → List Int → List (List Int) → Prop) (post : List Int → List (List Int) → Prop) (v0 v1 : Int) : Prop :=
 ((decide (((IntKind.wrap .i64 (0 - v1)) : Int) ≤ v0) = true →
  post [(if decide ((v0 : Int) ≤ v1) = true then 1 else 0)] []) ∧ (decide (((IntKind.wrap .i64 (0 - v1)) : Int) ≤ v0) = false →
  post [0] []))
theorem q44 (T : Tab) (I : Nat → Env → Env → Prop) (M : Nat → Env → Env → Nat) (pre : Nat → List Int → List (List Int) → Prop) (post : List Int → List (List Int) → Prop) (v0 v1 : Int) : t44.plain T (presG pre I M) post ⟨[v0, v1], []⟩ = p44 T I M pre post v0 v1 := by kernel_rfl
theorem k44 (T : Tab) (I : Nat → Env → Env → Prop) (M : Nat → Env → Env → Nat) (pre : Nat → List Int → List (List Int) → Prop) (hs : SubSig T c44.sigs) (ht : TotG pre c44.sigs) (hg : T.sig 44 = some s44) (hC : CtAll Try.prog T.fns (presQ pre) c44.sigs) (hk : CpAll Try.prog c44.cps) (hi : ∀ xs ls, allHas (parIvs s44.params) xs → pre 44 xs ls → allHas iv44 xs)
    (h : ∀ (v0 v1 : Int), allHas iv44 [v0, v1] → allL (parLvs s44.params) [] → pre 44 [v0, v1] [] → p44 T I M pre (fun ys _ => ys = T.app 44 [v0, v1] []) v0 v1) : CT Try.prog T.fns (presQ pre) 44 s44 :=
  T.ctg (F := ⟨c44, []⟩) (fuel := 250) vc44 Try.checked.mixed hs ht hg hC hk Try.func44 I M (fun xs ls h1 h2 h3 => ⟨hi xs ls h1 h3, h2⟩) fun xs ls hx hl hp => by
    match xs, ls, hx, hl, hp with
    | [v0, v1], [], hx, hl, hp => rw [q44]; exact h v0 v1 hx hl hp
/-- loop.example/g01242/impl.commonOf -/
def s76 : Sig := ⟨[.slc [.i .i64, .i .i64]], [(false, [.i .i64])], false⟩
noncomputable def c76 : Cfg := ⟨Try.prog, [], [], [], []⟩
def iv76 : List Iv := [⟨(-9223372036854775808), 9223372036854775807⟩, ⟨(-9223372036854775808), 9223372036854775807⟩]
def t76 : VC :=
 (.loop 0 [(.lit 0), (.var 0)] [] [⟨(-9223372036854775808), 9223372036854775807⟩, ⟨(-9223372036854775808), 9223372036854775807⟩] []
  (.ite (.not (.eq (.var 3) (.lit 0)))
   (.need [(.b (.not (.eq (.var 3) (.lit 0))))]
   (.bind (.tmod (.var 2) (.var 3))
   (.again 0 2 0 [⟨(-9223372036854775808), 9223372036854775807⟩, ⟨(-9223372036854775808), 9223372036854775807⟩] [(.var 3), (.var 4)] [])))
   (.loop 0 [(.var 2), (.var 1)] [] [⟨(-9223372036854775808), 9223372036854775807⟩, ⟨(-9223372036854775808), 9223372036854775807⟩] []
    (.ite (.not (.eq (.var 5) (.lit 0)))
     (.need [(.b (.not (.eq (.var 5) (.lit 0))))]
     (.bind (.tmod (.var 4) (.var 5))
     (.again 0 4 0 [⟨(-9223372036854775808), 9223372036854775807⟩, ⟨(-9223372036854775808), 9223372036854775807⟩] [(.var 5), (.var 6)] [])))
     (.bind (.ite (.lt (.var 4) (.wrap .i64 (.sub (.lit 0) (.var 4)))) (.wrap .i64 (.sub (.lit 0) (.var 4))) (.var 4))
     (.fin (.e (.var 6) .nil)))))))
theorem vc76 : vcOfI ⟨c76, [(5, ⟨0, [3, 5], [], [12, 13, 14, 15, 16, 17, 10], [⟨(-9223372036854775808), 9223372036854775807⟩, ⟨(-9223372036854775808), 9223372036854775807⟩], [], []⟩)]⟩ iv76 (parLvs s76.params) 250 Try.f76 s76 = t76 := by kernel_rfl
set_option linter.unusedVariables false in
def p76 (T : Tab) (I : Nat → Env → Env → Prop) (M : Nat → Env → Env → Nat) (pre : Nat → List Int → List (List Int) → Prop) (post : List Int → List (List Int) → Prop) (v0 v1 : Int) : Prop :=
 ((allHas [⟨(-9223372036854775808), 9223372036854775807⟩, ⟨(-9223372036854775808), 9223372036854775807⟩] [0, v0] ∧ I 0 ⟨[v0, v1], []⟩ ⟨[0, v0], []⟩) ∧ ∀ v2 v3 : Int, allHas [⟨(-9223372036854775808), 9223372036854775807⟩, ⟨(-9223372036854775808), 9223372036854775807⟩] [v2, v3] → I 0 ⟨[v0, v1], []⟩ ⟨[v2, v3], []⟩ →
  (((!decide ((v3 : Int) = 0)) = true →
   (((!decide ((v3 : Int) = 0)) = true) ∧ (((!decide ((v3 : Int) = 0)) = true) →
   ∀ v4 : Int, v4 = (Int.tmod v2 v3) →
   (allHas [⟨(-9223372036854775808), 9223372036854775807⟩, ⟨(-9223372036854775808), 9223372036854775807⟩] [v3, v4] ∧ I 0 ⟨[v0, v1], []⟩ ⟨[v3, v4], []⟩ ∧ M 0 ⟨[v0, v1], []⟩ ⟨[v3, v4], []⟩ < M 0 ⟨[v0, v1], []⟩ ⟨[v2, v3], []⟩)))) ∧ ((!decide ((v3 : Int) = 0)) = false →
   ((allHas [⟨(-9223372036854775808), 9223372036854775807⟩, ⟨(-9223372036854775808), 9223372036854775807⟩] [v2, v1] ∧ I 0 ⟨[v0, v1, v2, v3], []⟩ ⟨[v2, v1], []⟩) ∧ ∀ v4 v5 : Int, allHas [⟨(-9223372036854775808), 9223372036854775807⟩, ⟨(-9223372036854775808), 9223372036854775807⟩] [v4, v5] → I 0 ⟨[v0, v1, v2, v3], []⟩ ⟨[v4, v5], []⟩ →
    (((!decide ((v5 : Int) = 0)) = true →
     (((!decide ((v5 : Int) = 0)) = true) ∧ (((!decide ((v5 : Int) = 0)) = true) →
     ∀ v6 : Int, v6 = (Int.tmod v4 v5) →
     (allHas [⟨(-9223372036854775808), 9223372036854775807⟩, ⟨(-9223372036854775808), 9223372036854775807⟩] [v5, v6] ∧ I 0 ⟨[v0, v1, v2, v3], []⟩ ⟨[v5, v6], []⟩ ∧ M 0 ⟨[v0, v1, v2, v3], []⟩ ⟨[v5, v6], []⟩ < M 0 ⟨[v0, v1, v2, v3], []⟩ ⟨[v4, v5], []⟩)))) ∧ ((!decide ((v5 : Int) = 0)) = false →
     ∀ v6 : Int, v6 = (if decide ((v4 : Int) < (IntKind.wrap .i64 (0 - v4))) = true then (IntKind.wrap .i64 (0 - v4)) else v4) →
     post [v6] []))))))
theorem q76 (T : Tab) (I : Nat → Env → Env → Prop) (M : Nat → Env → Env → Nat) (pre : Nat → List Int → List (List Int) → Prop) (post : List Int → List (List Int) → Prop) (v0 v1 : Int) : t76.plain T (presG pre I M) post ⟨[v0, v1], []⟩ = p76 T I M pre post v0 v1 := by kernel_rfl
theorem k76 (T : Tab) (I : Nat → Env → Env → Prop) (M : Nat → Env → Env → Nat) (pre : Nat → List Int → List (List Int) → Prop) (hs : SubSig T c76.sigs) (ht : TotG pre c76.sigs) (hg : T.sig 76 = some s76) (hC : CtAll Try.prog T.fns (presQ pre) c76.sigs) (hk : CpAll Try.prog c76.cps) (hi : ∀ xs ls, allHas (parIvs s76.params) xs → pre 76 xs ls → allHas iv76 xs)
    (h : ∀ (v0 v1 : Int), allHas iv76 [v0, v1] → allL (parLvs s76.params) [] → pre 76 [v0, v1] [] → p76 T I M pre (fun ys _ => ys = T.app 76 [v0, v1] []) v0 v1) : CT Try.prog T.fns (presQ pre) 76 s76 :=
  T.ctg (F := ⟨c76, [(5, ⟨0, [3, 5], [], [12, 13, 14, 15, 16, 17, 10], [⟨(-9223372036854775808), 9223372036854775807⟩, ⟨(-9223372036854775808), 9223372036854775807⟩], [], []⟩)]⟩) (fuel := 250) vc76 Try.checked.mixed hs ht hg hC hk Try.func76 I M (fun xs ls h1 h2 h3 => ⟨hi xs ls h1 h3, h2⟩) fun xs ls hx hl hp => by
    match xs, ls, hx, hl, hp with
    | [v0, v1], [], hx, hl, hp => rw [q76]; exact h v0 v1 hx hl hp
/-- loop.example/g01242/spec.l03Common -/
def s81 : Sig := ⟨[.val false [.i .i64], .val false [.i .i64]], [(false, [.i .i64])], false⟩
noncomputable def c81 : Cfg := ⟨Try.prog, [(74, s74)], [], [], []⟩
def iv81 : List Iv := [⟨(-9223372036854775808), 9223372036854775807⟩, ⟨(-9223372036854775808), 9223372036854775807⟩]
def t81 : VC :=
 (.call 74 (.e (.var 0) .nil) 1
 (.call 74 (.e (.var 1) .nil) 1
 (.loop 0 [(.var 2), (.var 3)] [] [⟨(-9223372036854775808), 9223372036854775807⟩, ⟨(-9223372036854775808), 9223372036854775807⟩] []
  (.ite (.not (.eq (.var 5) (.lit 0)))
   (.need [(.b (.not (.eq (.var 5) (.lit 0))))]
   (.bind (.tmod (.var 4) (.var 5))
   (.again 0 4 0 [⟨(-9223372036854775808), 9223372036854775807⟩, ⟨(-9223372036854775808), 9223372036854775807⟩] [(.var 5), (.var 6)] [])))
   (.fin (.e (.var 4) .nil))))))
theorem vc81 : vcOfI ⟨c81, [(3, ⟨0, [0, 1], [], [10, 11, 12, 13, 14, 5, 15, 16], [⟨(-9223372036854775808), 9223372036854775807⟩, ⟨(-9223372036854775808), 9223372036854775807⟩], [], []⟩)]⟩ iv81 (parLvs s81.params) 250 Try.f81 s81 = t81 := by kernel_rfl
set_option linter.unusedVariables false in
def p81 (T : Tab) (I : Nat → Env → Env → Prop) (M : Nat → Env → Env → Nat) (pre : Nat → List Int → List (List Int) → Prop) (post : List Int → List (List Int) → Prop) (v0 v1 : Int) : Prop :=
 ∀ v2 : Int, [v2] = T.out 74 1 [v0] →
 ∀ v3 : Int, [v3] = T.out 74 1 [v1] →
 ((allHas [⟨(-9223372036854775808), 9223372036854775807⟩, ⟨(-9223372036854775808), 9223372036854775807⟩] [v2, v3] ∧ I 0 ⟨[v0, v1, v2, v3], []⟩ ⟨[v2, v3], []⟩) ∧ ∀ v4 v5 : Int, allHas [⟨(-9223372036854775808), 9223372036854775807⟩, ⟨(-9223372036854775808), 9223372036854775807⟩] [v4, v5] → I 0 ⟨[v0, v1, v2, v3], []⟩ ⟨[v4, v5], []⟩ →
  (((!decide ((v5 : Int) = 0)) = true →
   (((!decide ((v5 : Int) = 0)) = true) ∧ (((!decide ((v5 : Int) = 0)) = true) →
   ∀ v6 : Int, v6 = (Int.tmod v4 v5) →
   (allHas [⟨(-9223372036854775808), 9223372036854775807⟩, ⟨(-9223372036854775808), 9223372036854775807⟩] [v5, v6] ∧ I 0 ⟨[v0, v1, v2, v3], []⟩ ⟨[v5, v6], []⟩ ∧ M 0 ⟨[v0, v1, v2, v3], []⟩ ⟨[v5, v6], []⟩ < M 0 ⟨[v0, v1, v2, v3], []⟩ ⟨[v4, v5], []⟩)))) ∧ ((!decide ((v5 : Int) = 0)) = false →
   post [v4] [])))
theorem q81 (T : Tab) (I : Nat → Env → Env → Prop) (M : Nat → Env → Env → Nat) (pre : Nat → List Int → List (List Int) → Prop) (post : List Int → List (List Int) → Prop) (v0 v1 : Int) : t81.plain T (presG pre I M) post ⟨[v0, v1], []⟩ = p81 T I M pre post v0 v1 := by kernel_rfl
theorem k81 (T : Tab) (I : Nat → Env → Env → Prop) (M : Nat → Env → Env → Nat) (pre : Nat → List Int → List (List Int) → Prop) (hs : SubSig T c81.sigs) (ht : TotG pre c81.sigs) (hg : T.sig 81 = some s81) (hC : CtAll Try.prog T.fns (presQ pre) c81.sigs) (hk : CpAll Try.prog c81.cps) (hi : ∀ xs ls, allHas (parIvs s81.params) xs → pre 81 xs ls → allHas iv81 xs)
    (h : ∀ (v0 v1 : Int), allHas iv81 [v0, v1] → allL (parLvs s81.params) [] → pre 81 [v0, v1] [] → p81 T I M pre (fun ys _ => ys = T.app 81 [v0, v1] []) v0 v1) : CT Try.prog T.fns (presQ pre) 81 s81 :=
  T.ctg (F := ⟨c81, [(3, ⟨0, [0, 1], [], [10, 11, 12, 13, 14, 5, 15, 16], [⟨(-9223372036854775808), 9223372036854775807⟩, ⟨(-9223372036854775808), 9223372036854775807⟩], [], []⟩)]⟩) (fuel := 250) vc81 Try.checked.mixed hs ht hg hC hk Try.func81 I M (fun xs ls h1 h2 h3 => ⟨hi xs ls h1 h3, h2⟩) fun xs ls hx hl hp => by
    match xs, ls, hx, hl, hp with
    | [v0, v1], [], hx, hl, hp => rw [q81]; exact h v0 v1 hx hl hp
/-- loop.example/g01242/spec.l03Ratio -/
def s82 : Sig := ⟨[.ptr [.i .i64, .i .i64]], [(false, [.b])], true⟩
noncomputable def c82 : Cfg := ⟨Try.prog, [(62, s62), (81, s81)], [], [], []⟩
def iv82 : List Iv := [⟨(-9223372036854775808), 9223372036854775807⟩, ⟨(-9223372036854775808), 9223372036854775807⟩]
def t82 : VC :=
 (.ite (.eq (.app 62 0 (.e (.var 1) (.e (.lit 1) (.e (.lit 2147483648) .nil)))) (.lit 1))
  (.ite (.eq (.app 62 0 (.e (.var 0) (.e (.lit (-2147483648)) (.e (.lit 2147483648) .nil)))) (.lit 1))
   (.need [(.pre 81 (.e (.var 0) (.e (.var 1) .nil)))]
   (.call 62 (.e (.var 1) (.e (.lit 1) (.e (.lit 2147483648) .nil))) 1
   (.call 62 (.e (.var 0) (.e (.lit (-2147483648)) (.e (.lit 2147483648) .nil))) 1
   (.call 81 (.e (.var 0) (.e (.var 1) .nil)) 1
   (.fin (.e (.ite (.eq (.var 4) (.lit 1)) (.lit 1) (.lit 0)) .nil))))))
   (.call 62 (.e (.var 1) (.e (.lit 1) (.e (.lit 2147483648) .nil))) 1
   (.call 62 (.e (.var 0) (.e (.lit (-2147483648)) (.e (.lit 2147483648) .nil))) 1
   (.fin (.e (.lit 0) .nil)))))
  (.call 62 (.e (.var 1) (.e (.lit 1) (.e (.lit 2147483648) .nil))) 1
  (.fin (.e (.lit 0) .nil))))
theorem vc82 : vcOfI ⟨c82, []⟩ iv82 (parLvs s82.params) 250 Try.f82 s82 = t82 := by kernel_rfl
set_option linter.unusedVariables false in
def p82 (T : Tab) (I : Nat → Env → Env → Prop) (M : Nat → Env → Env → Nat) (pre : Nat → List Int → List (List Int) → Prop) (post : List Int → List (List Int) → Prop) (v0 v1 : Int) : Prop :=
 ((decide (((List.getD (T.fns 62 [v1, 1, 2147483648] []).1 0 0) : Int) = 1) = true →
  ((decide (((List.getD (T.fns 62 [v0, (-2147483648), 2147483648] []).1 0 0) : Int) = 1) = true →
   ((pre 81 [v0, v1] []) ∧ ((pre 81 [v0, v1] []) →
   ∀ v2 : Int, [v2] = T.out 62 1 [v1, 1, 2147483648] →
   ∀ v3 : Int, [v3] = T.out 62 1 [v0, (-2147483648), 2147483648] →
   ∀ v4 : Int, [v4] = T.out 81 1 [v0, v1] →
   post [(if decide ((v4 : Int) = 1) = true then 1 else 0)] []))) ∧ (decide (((List.getD (T.fns 62 [v0, (-2147483648), 2147483648] []).1 0 0) : Int) = 1) = false →
   ∀ v2 : Int, [v2] = T.out 62 1 [v1, 1, 2147483648] →
   ∀ v3 : Int, [v3] = T.out 62 1 [v0, (-2147483648), 2147483648] →
   post [0] []))) ∧ (decide (((List.getD (T.fns 62 [v1, 1, 2147483648] []).1 0 0) : Int) = 1) = false →
  ∀ v2 : Int, [v2] = T.out 62 1 [v1, 1, 2147483648] →
  post [0] []))
theorem q82 (T : Tab) (I : Nat → Env → Env → Prop) (M : Nat → Env → Env → Nat) (pre : Nat → List Int → List (List Int) → Prop) (post : List Int → List (List Int) → Prop) (v0 v1 : Int) : t82.plain T (presG pre I M) post ⟨[v0, v1], []⟩ = p82 T I M pre post v0 v1 := by kernel_rfl
theorem k82 (T : Tab) (I : Nat → Env → Env → Prop) (M : Nat → Env → Env → Nat) (pre : Nat → List Int → List (List Int) → Prop) (hs : SubSig T c82.sigs) (ht : TotG pre c82.sigs) (hg : T.sig 82 = some s82) (hC : CtAll Try.prog T.fns (presQ pre) c82.sigs) (hk : CpAll Try.prog c82.cps) (hi : ∀ xs ls, allHas (parIvs s82.params) xs → pre 82 xs ls → allHas iv82 xs)
    (h : ∀ (v0 v1 : Int), allHas iv82 [v0, v1] → allL (parLvs s82.params) [] → pre 82 [v0, v1] [] → p82 T I M pre (fun ys _ => ys = T.app 82 [v0, v1] []) v0 v1) : CT Try.prog T.fns (presQ pre) 82 s82 :=
  T.ctg (F := ⟨c82, []⟩) (fuel := 250) vc82 Try.checked.mixed hs ht hg hC hk Try.func82 I M (fun xs ls h1 h2 h3 => ⟨hi xs ls h1 h3, h2⟩) fun xs ls hx hl hp => by
    match xs, ls, hx, hl, hp with
    | [v0, v1], [], hx, hl, hp => rw [q82]; exact h v0 v1 hx hl hp
/-- loop.example/g01242/impl.MakeRatio -/
def s61 : Sig := ⟨[.val false [.i .i64], .val false [.i .i64]], [(true, [.i .i64, .i .i64]), (false, [.i .i64])], true⟩
noncomputable def c61 : Cfg := ⟨Try.prog, [(44, s44), (76, s76)], [], [], []⟩
def iv61 : List Iv := [⟨(-9223372036854775808), 9223372036854775807⟩, ⟨(-9223372036854775808), 9223372036854775807⟩]
def t61 : VC :=
 (.call 44 (.e (.var 0) (.e (.lit 1000000000000000000) .nil)) 1
 (.ite (.eq (.var 2) (.lit 1))
  (.call 44 (.e (.var 1) (.e (.lit 1000000000000000000) .nil)) 1
  (.ite (.not (.eq (.var 3) (.lit 1)))
   (.fin (.e (.lit 0) (.e (.lit 0) (.e (.lit 3) .nil))))
   (.ite (.eq (.var 1) (.lit 0))
    (.fin (.e (.lit 0) (.e (.lit 0) (.e (.lit 4) .nil))))
    (.need [(.pre 76 (.e (.var 0) (.e (.var 1) .nil)))]
    (.call 76 (.e (.var 0) (.e (.var 1) .nil)) 1
    (.ite (.lt (.var 1) (.lit 0))
     (.bind (.wrap .i64 (.sub (.lit 0) (.var 4)))
     (.need [(.b (.not (.eq (.var 5) (.lit 0)))), (.b (.not (.eq (.var 5) (.lit 0))))]
     (.bind (.wrap .i64 (.tdiv (.var 0) (.var 5)))
     (.bind (.wrap .i64 (.tdiv (.var 1) (.var 5)))
     (.call 44 (.e (.var 6) (.e (.lit 2147483648) .nil)) 1
     (.ite (.eq (.var 8) (.lit 1))
      (.ite (.lt (.lit 2147483648) (.var 7))
       (.fin (.e (.lit 0) (.e (.lit 0) (.e (.lit 3) .nil))))
       (.fin (.e (.var 6) (.e (.var 7) (.e (.lit 0) .nil)))))
      (.fin (.e (.lit 0) (.e (.lit 0) (.e (.lit 3) .nil))))))))))
     (.need [(.b (.not (.eq (.var 4) (.lit 0)))), (.b (.not (.eq (.var 4) (.lit 0))))]
     (.bind (.wrap .i64 (.tdiv (.var 0) (.var 4)))
     (.bind (.wrap .i64 (.div (.var 1) (.var 4)))
     (.call 44 (.e (.var 5) (.e (.lit 2147483648) .nil)) 1
     (.ite (.eq (.var 7) (.lit 1))
      (.ite (.lt (.lit 2147483648) (.var 6))
       (.fin (.e (.lit 0) (.e (.lit 0) (.e (.lit 3) .nil))))
       (.fin (.e (.var 5) (.e (.var 6) (.e (.lit 0) .nil)))))
      (.fin (.e (.lit 0) (.e (.lit 0) (.e (.lit 3) .nil)))))))))))))))
  (.fin (.e (.lit 0) (.e (.lit 0) (.e (.lit 3) .nil))))))
theorem vc61 : vcOfI ⟨c61, []⟩ iv61 (parLvs s61.params) 250 Try.f61 s61 = t61 := by kernel_rfl
set_option linter.unusedVariables false in
def p61 (T : Tab) (I : Nat → Env → Env → Prop) (M : Nat → Env → Env → Nat) (pre : Nat → List Int → List (List Int) → Prop) (post : List Int → List (List Int) → Prop) (v0 v1 : Int) : Prop :=
 ∀ v2 : Int, [v2] = T.out 44 1 [v0, 1000000000000000000] →
 ((decide ((v2 : Int) = 1) = true →
  ∀ v3 : Int, [v3] = T.out 44 1 [v1, 1000000000000000000] →
  (((!decide ((v3 : Int) = 1)) = true →
   post [0, 0, 3] []) ∧ ((!decide ((v3 : Int) = 1)) = false →
   ((decide ((v1 : Int) = 0) = true →
    post [0, 0, 4] []) ∧ (decide ((v1 : Int) = 0) = false →
    ((pre 76 [v0, v1] []) ∧ ((pre 76 [v0, v1] []) →
    ∀ v4 : Int, [v4] = T.out 76 1 [v0, v1] →
    ((decide ((v1 : Int) < 0) = true →
     ∀ v5 : Int, v5 = (IntKind.wrap .i64 (0 - v4)) →
     (((!decide ((v5 : Int) = 0)) = true ∧ (!decide ((v5 : Int) = 0)) = true) ∧ (((!decide ((v5 : Int) = 0)) = true ∧ (!decide ((v5 : Int) = 0)) = true) →
     ∀ v6 : Int, v6 = (IntKind.wrap .i64 (Int.tdiv v0 v5)) →
     ∀ v7 : Int, v7 = (IntKind.wrap .i64 (Int.tdiv v1 v5)) →
     ∀ v8 : Int, [v8] = T.out 44 1 [v6, 2147483648] →
     ((decide ((v8 : Int) = 1) = true →
      ((decide ((2147483648 : Int) < v7) = true →
       post [0, 0, 3] []) ∧ (decide ((2147483648 : Int) < v7) = false →
       post [v6, v7, 0] []))) ∧ (decide ((v8 : Int) = 1) = false →
      post [0, 0, 3] []))))) ∧ (decide ((v1 : Int) < 0) = false →
     (((!decide ((v4 : Int) = 0)) = true ∧ (!decide ((v4 : Int) = 0)) = true) ∧ (((!decide ((v4 : Int) = 0)) = true ∧ (!decide ((v4 : Int) = 0)) = true) →
     ∀ v5 : Int, v5 = (IntKind.wrap .i64 (Int.tdiv v0 v4)) →
     ∀ v6 : Int, v6 = (IntKind.wrap .i64 (v1 / v4)) →
     ∀ v7 : Int, [v7] = T.out 44 1 [v5, 2147483648] →
     ((decide ((v7 : Int) = 1) = true →
      ((decide ((2147483648 : Int) < v6) = true →
       post [0, 0, 3] []) ∧ (decide ((2147483648 : Int) < v6) = false →
       post [v5, v6, 0] []))) ∧ (decide ((v7 : Int) = 1) = false →
      post [0, 0, 3] []))))))))))))) ∧ (decide ((v2 : Int) = 1) = false →
  post [0, 0, 3] []))
theorem q61 (T : Tab) (I : Nat → Env → Env → Prop) (M : Nat → Env → Env → Nat) (pre : Nat → List Int → List (List Int) → Prop) (post : List Int → List (List Int) → Prop) (v0 v1 : Int) : t61.plain T (presG pre I M) post ⟨[v0, v1], []⟩ = p61 T I M pre post v0 v1 := by kernel_rfl
theorem k61 (T : Tab) (I : Nat → Env → Env → Prop) (M : Nat → Env → Env → Nat) (pre : Nat → List Int → List (List Int) → Prop) (hs : SubSig T c61.sigs) (ht : TotG pre c61.sigs) (hg : T.sig 61 = some s61) (hC : CtAll Try.prog T.fns (presQ pre) c61.sigs) (hk : CpAll Try.prog c61.cps) (hi : ∀ xs ls, allHas (parIvs s61.params) xs → pre 61 xs ls → allHas iv61 xs)
    (h : ∀ (v0 v1 : Int), allHas iv61 [v0, v1] → allL (parLvs s61.params) [] → pre 61 [v0, v1] [] → p61 T I M pre (fun ys _ => ys = T.app 61 [v0, v1] []) v0 v1) : CT Try.prog T.fns (presQ pre) 61 s61 :=
  T.ctg (F := ⟨c61, []⟩) (fuel := 250) vc61 Try.checked.mixed hs ht hg hC hk Try.func61 I M (fun xs ls h1 h2 h3 => ⟨hi xs ls h1 h3, h2⟩) fun xs ls hx hl hp => by
    match xs, ls, hx, hl, hp with
    | [v0, v1], [], hx, hl, hp => rw [q61]; exact h v0 v1 hx hl hp
/-- loop.example/g01242/spec.l03Make -/
def s75 : Sig := ⟨[.val false [.i .i64], .val false [.i .i64]], [(true, [.i .i64, .i .i64]), (false, [.i .i64])], false⟩
noncomputable def c75 : Cfg := ⟨Try.prog, [(81, s81), (82, s82)], [], [], []⟩
def iv75 : List Iv := [⟨(-9223372036854775808), 9223372036854775807⟩, ⟨(-9223372036854775808), 9223372036854775807⟩]
def t75 : VC :=
 (.need [(.pre 81 (.e (.var 0) (.e (.var 1) .nil)))]
 (.call 81 (.e (.var 0) (.e (.var 1) .nil)) 1
 (.ite (.lt (.var 1) (.lit 0))
  (.bind (.wrap .i64 (.sub (.lit 0) (.var 2)))
  (.need [(.b (.not (.eq (.var 3) (.lit 0)))), (.b (.not (.eq (.var 3) (.lit 0))))]
  (.bind (.wrap .i64 (.tdiv (.var 0) (.var 3)))
  (.bind (.wrap .i64 (.tdiv (.var 1) (.var 3)))
  (.call 82 (.e (.var 4) (.e (.var 5) .nil)) 1
  (.ite (.not (.eq (.var 6) (.lit 1)))
   (.fin (.e (.lit 0) (.e (.lit 0) (.e (.lit 3) .nil))))
   (.fin (.e (.var 4) (.e (.var 5) (.e (.lit 0) .nil))))))))))
  (.need [(.b (.not (.eq (.var 2) (.lit 0)))), (.b (.not (.eq (.var 2) (.lit 0))))]
  (.bind (.wrap .i64 (.tdiv (.var 0) (.var 2)))
  (.bind (.wrap .i64 (.div (.var 1) (.var 2)))
  (.call 82 (.e (.var 3) (.e (.var 4) .nil)) 1
  (.ite (.not (.eq (.var 5) (.lit 1)))
   (.fin (.e (.lit 0) (.e (.lit 0) (.e (.lit 3) .nil))))
   (.fin (.e (.var 3) (.e (.var 4) (.e (.lit 0) .nil))))))))))))
theorem vc75 : vcOfI ⟨c75, []⟩ iv75 (parLvs s75.params) 250 Try.f75 s75 = t75 := by kernel_rfl
set_option linter.unusedVariables false in
def p75 (T : Tab) (I : Nat → Env → Env → Prop) (M : Nat → Env → Env → Nat) (pre : Nat → List Int → List (List Int) → Prop) (post : List Int → List (List Int) → Prop) (v0 v1 : Int) : Prop :=
 ((pre 81 [v0, v1] []) ∧ ((pre 81 [v0, v1] []) →
 ∀ v2 : Int, [v2] = T.out 81 1 [v0, v1] →
 ((decide ((v1 : Int) < 0) = true →
  ∀ v3 : Int, v3 = (IntKind.wrap .i64 (0 - v2)) →
  (((!decide ((v3 : Int) = 0)) = true ∧ (!decide ((v3 : Int) = 0)) = true) ∧ (((!decide ((v3 : Int) = 0)) = true ∧ (!decide ((v3 : Int) = 0)) = true) →
  ∀ v4 : Int, v4 = (IntKind.wrap .i64 (Int.tdiv v0 v3)) →
  ∀ v5 : Int, v5 = (IntKind.wrap .i64 (Int.tdiv v1 v3)) →
  ∀ v6 : Int, [v6] = T.out 82 1 [v4, v5] →
  (((!decide ((v6 : Int) = 1)) = true →
   post [0, 0, 3] []) ∧ ((!decide ((v6 : Int) = 1)) = false →
   post [v4, v5, 0] []))))) ∧ (decide ((v1 : Int) < 0) = false →
  (((!decide ((v2 : Int) = 0)) = true ∧ (!decide ((v2 : Int) = 0)) = true) ∧ (((!decide ((v2 : Int) = 0)) = true ∧ (!decide ((v2 : Int) = 0)) = true) →
  ∀ v3 : Int, v3 = (IntKind.wrap .i64 (Int.tdiv v0 v2)) →
  ∀ v4 : Int, v4 = (IntKind.wrap .i64 (v1 / v2)) →
  ∀ v5 : Int, [v5] = T.out 82 1 [v3, v4] →
  (((!decide ((v5 : Int) = 1)) = true →
   post [0, 0, 3] []) ∧ ((!decide ((v5 : Int) = 1)) = false →
   post [v3, v4, 0] []))))))))
theorem q75 (T : Tab) (I : Nat → Env → Env → Prop) (M : Nat → Env → Env → Nat) (pre : Nat → List Int → List (List Int) → Prop) (post : List Int → List (List Int) → Prop) (v0 v1 : Int) : t75.plain T (presG pre I M) post ⟨[v0, v1], []⟩ = p75 T I M pre post v0 v1 := by kernel_rfl
theorem k75 (T : Tab) (I : Nat → Env → Env → Prop) (M : Nat → Env → Env → Nat) (pre : Nat → List Int → List (List Int) → Prop) (hs : SubSig T c75.sigs) (ht : TotG pre c75.sigs) (hg : T.sig 75 = some s75) (hC : CtAll Try.prog T.fns (presQ pre) c75.sigs) (hk : CpAll Try.prog c75.cps) (hi : ∀ xs ls, allHas (parIvs s75.params) xs → pre 75 xs ls → allHas iv75 xs)
    (h : ∀ (v0 v1 : Int), allHas iv75 [v0, v1] → allL (parLvs s75.params) [] → pre 75 [v0, v1] [] → p75 T I M pre (fun ys _ => ys = T.app 75 [v0, v1] []) v0 v1) : CT Try.prog T.fns (presQ pre) 75 s75 :=
  T.ctg (F := ⟨c75, []⟩) (fuel := 250) vc75 Try.checked.mixed hs ht hg hC hk Try.func75 I M (fun xs ls h1 h2 h3 => ⟨hi xs ls h1 h3, h2⟩) fun xs ls hx hl hp => by
    match xs, ls, hx, hl, hp with
    | [v0, v1], [], hx, hl, hp => rw [q75]; exact h v0 v1 hx hl hp
/-- loop.example/g01242/laws.eqRatio -/
def s42 : Sig := ⟨[.val true [.i .i64, .i .i64], .val true [.i .i64, .i .i64]], [(false, [.b])], true⟩
noncomputable def c42 : Cfg := ⟨Try.prog, [], [], [], []⟩
def iv42 : List Iv := [⟨(-9223372036854775808), 9223372036854775807⟩, ⟨(-9223372036854775808), 9223372036854775807⟩, ⟨(-9223372036854775808), 9223372036854775807⟩, ⟨(-9223372036854775808), 9223372036854775807⟩]
def t42 : VC :=
 (.ite (.not (.eq (.var 0) (.var 2)))
  (.fin (.e (.lit 0) .nil))
  (.ite (.not (.eq (.var 1) (.var 3)))
   (.fin (.e (.lit 0) .nil))
   (.fin (.e (.lit 1) .nil))))
theorem vc42 : vcOfI ⟨c42, []⟩ iv42 (parLvs s42.params) 250 Try.f42 s42 = t42 := by kernel_rfl
set_option linter.unusedVariables false in
def p42 (T : Tab) (I : Nat → Env → Env → Prop) (M : Nat → Env → Env → Nat) (pre : Nat → List Int → List (List Int) → Prop) (post : List Int → List (List Int) → Prop) (v0 v1 v2 v3 : Int) : Prop :=
 (((!decide ((v0 : Int) = v2)) = true →
  post [0] []) ∧ ((!decide ((v0 : Int) = v2)) = false →
  (((!decide ((v1 : Int) = v3)) = true →
   post [0] []) ∧ ((!decide ((v1 : Int) = v3)) = false →
   post [1] []))))
theorem q42 (T : Tab) (I : Nat → Env → Env → Prop) (M : Nat → Env → Env → Nat) (pre : Nat → List Int → List (List Int) → Prop) (post : List Int → List (List Int) → Prop) (v0 v1 v2 v3 : Int) : t42.plain T (presG pre I M) post ⟨[v0, v1, v2, v3], []⟩ = p42 T I M pre post v0 v1 v2 v3 := by kernel_rfl
theorem k42 (T : Tab) (I : Nat → Env → Env → Prop) (M : Nat → Env → Env → Nat) (pre : Nat → List Int → List (List Int) → Prop) (hs : SubSig T c42.sigs) (ht : TotG pre c42.sigs) (hg : T.sig 42 = some s42) (hC : CtAll Try.prog T.fns (presQ pre) c42.sigs) (hk : CpAll Try.prog c42.cps) (hi : ∀ xs ls, allHas (parIvs s42.params) xs → pre 42 xs ls → allHas iv42 xs)
    (h : ∀ (v0 v1 v2 v3 : Int), allHas iv42 [v0, v1, v2, v3] → allL (parLvs s42.params) [] → pre 42 [v0, v1, v2, v3] [] → p42 T I M pre (fun ys _ => ys = T.app 42 [v0, v1, v2, v3] []) v0 v1 v2 v3) : CT Try.prog T.fns (presQ pre) 42 s42 :=
  T.ctg (F := ⟨c42, []⟩) (fuel := 250) vc42 Try.checked.mixed hs ht hg hC hk Try.func42 I M (fun xs ls h1 h2 h3 => ⟨hi xs ls h1 h3, h2⟩) fun xs ls hx hl hp => by
    match xs, ls, hx, hl, hp with
    | [v0, v1, v2, v3], [], hx, hl, hp => rw [q42]; exact h v0 v1 v2 v3 hx hl hp
/-- loop.example/g01242/laws.eqInt64S -/
def s16 : Sig := ⟨[.lst [.i64], .lst [.i64]], [(false, [.b])], true⟩
noncomputable def c16 : Cfg := ⟨Try.prog, [], [], [], []⟩
def iv16 : List Iv := []
def t16 : VC :=
 (.ite (.not (.eq (.len (.var 0)) (.len (.var 1))))
  (.fin (.e (.lit 0) .nil))
  (.loop 1 [(.lit 0)] [] [⟨(-9223372036854775808), 9223372036854775807⟩] []
   (.ite (.lt (.var 0) (.len (.var 0)))
    (.need [(.b (.le (.lit 0) (.var 0))), (.b (.lt (.var 0) (.len (.var 0)))), (.b (.lt (.add (.lit 0) (.var 0)) (.len (.var 0)))), (.b (.le (.lit 0) (.var 0))), (.b (.lt (.var 0) (.len (.var 1)))), (.b (.lt (.add (.lit 0) (.var 0)) (.len (.var 1))))]
    (.bind (.at (.var 0) (.add (.lit 0) (.var 0)))
    (.bind (.at (.var 1) (.add (.lit 0) (.var 0)))
    (.ite (.not (.eq (.at (.var 0) (.add (.lit 0) (.var 0))) (.at (.var 1) (.add (.lit 0) (.var 0)))))
     (.fin (.e (.lit 0) .nil))
     (.bind (.wrap .i64 (.add (.var 0) (.lit 1)))
     (.again 1 0 2 [⟨(-9223372036854775808), 9223372036854775807⟩] [(.var 3)] []))))))
    (.fin (.e (.lit 1) .nil)))))
theorem vc16 : vcOfI ⟨c16, [(4, ⟨1, [5], [], [11, 12, 13, 14, 17, 18, 19, 20, 21, 22, 23, 24, 25, 4, 15, 16], [⟨(-9223372036854775808), 9223372036854775807⟩], [], []⟩)]⟩ iv16 (parLvs s16.params) 250 Try.f16 s16 = t16 := by kernel_rfl
set_option linter.unusedVariables false in
def p16 (T : Tab) (I : Nat → Env → Env → Prop) (M : Nat → Env → Env → Nat) (pre : Nat → List Int → List (List Int) → Prop) (post : List Int → List (List Int) → Prop) (l0 l1 : List Int) : Prop :=
 (((!decide (((List.length l0 : Int) : Int) = (List.length l1 : Int))) = true →
  post [0] []) ∧ ((!decide (((List.length l0 : Int) : Int) = (List.length l1 : Int))) = false →
  ((allHas [⟨(-9223372036854775808), 9223372036854775807⟩] [0] ∧ I 1 ⟨[], [l0, l1]⟩ ⟨[0], []⟩) ∧ ∀ v0 : Int, allHas [⟨(-9223372036854775808), 9223372036854775807⟩] [v0] → I 1 ⟨[], [l0, l1]⟩ ⟨[v0], []⟩ →
   ((decide ((v0 : Int) < (List.length l0 : Int)) = true →
    ((decide ((0 : Int) ≤ v0) = true ∧ decide ((v0 : Int) < (List.length l0 : Int)) = true ∧ decide (((0 + v0) : Int) < (List.length l0 : Int)) = true ∧ decide ((0 : Int) ≤ v0) = true ∧ decide ((v0 : Int) < (List.length l1 : Int)) = true ∧ decide (((0 + v0) : Int) < (List.length l1 : Int)) = true) ∧ ((decide ((0 : Int) ≤ v0) = true ∧ decide ((v0 : Int) < (List.length l0 : Int)) = true ∧ decide (((0 + v0) : Int) < (List.length l0 : Int)) = true ∧ decide ((0 : Int) ≤ v0) = true ∧ decide ((v0 : Int) < (List.length l1 : Int)) = true ∧ decide (((0 + v0) : Int) < (List.length l1 : Int)) = true) →
    ∀ v1 : Int, v1 = (List.getD l0 (Int.toNat (0 + v0)) 0) →
    ∀ v2 : Int, v2 = (List.getD l1 (Int.toNat (0 + v0)) 0) →
    (((!decide (((List.getD l0 (Int.toNat (0 + v0)) 0) : Int) = (List.getD l1 (Int.toNat (0 + v0)) 0))) = true →
     post [0] []) ∧ ((!decide (((List.getD l0 (Int.toNat (0 + v0)) 0) : Int) = (List.getD l1 (Int.toNat (0 + v0)) 0))) = false →
     ∀ v3 : Int, v3 = (IntKind.wrap .i64 (v0 + 1)) →
     (allHas [⟨(-9223372036854775808), 9223372036854775807⟩] [v3] ∧ I 1 ⟨[], [l0, l1]⟩ ⟨[v3], []⟩ ∧ M 1 ⟨[], [l0, l1]⟩ ⟨[v3], []⟩ < M 1 ⟨[], [l0, l1]⟩ ⟨[v0], []⟩)))))) ∧ (decide ((v0 : Int) < (List.length l0 : Int)) = false →
    post [1] [])))))
theorem q16 (T : Tab) (I : Nat → Env → Env → Prop) (M : Nat → Env → Env → Nat) (pre : Nat → List Int → List (List Int) → Prop) (post : List Int → List (List Int) → Prop) (l0 l1 : List Int) : t16.plain T (presG pre I M) post ⟨[], [l0, l1]⟩ = p16 T I M pre post l0 l1 := by kernel_rfl
theorem k16 (T : Tab) (I : Nat → Env → Env → Prop) (M : Nat → Env → Env → Nat) (pre : Nat → List Int → List (List Int) → Prop) (hs : SubSig T c16.sigs) (ht : TotG pre c16.sigs) (hg : T.sig 16 = some s16) (hC : CtAll Try.prog T.fns (presQ pre) c16.sigs) (hk : CpAll Try.prog c16.cps) (hi : ∀ xs ls, allHas (parIvs s16.params) xs → pre 16 xs ls → allHas iv16 xs)
    (h : ∀ (l0 l1 : List Int), allHas iv16 [] → allL (parLvs s16.params) [l0, l1] → pre 16 [] [l0, l1] → p16 T I M pre (fun ys _ => ys = T.app 16 [] [l0, l1]) l0 l1) : CT Try.prog T.fns (presQ pre) 16 s16 :=
  T.ctg (F := ⟨c16, [(4, ⟨1, [5], [], [11, 12, 13, 14, 17, 18, 19, 20, 21, 22, 23, 24, 25, 4, 15, 16], [⟨(-9223372036854775808), 9223372036854775807⟩], [], []⟩)]⟩) (fuel := 250) vc16 Try.checked.mixed hs ht hg hC hk Try.func16 I M (fun xs ls h1 h2 h3 => ⟨hi xs ls h1 h3, h2⟩) fun xs ls hx hl hp => by
    match xs, ls, hx, hl, hp with
    | [], [l0, l1], hx, hl, hp => rw [q16]; exact h l0 l1 hx hl hp
/-- loop.example/g01242/spec.l04Terms -/
def s58 : Sig := ⟨[.lst [.i64]], [(false, [.b])], true⟩
noncomputable def c58 : Cfg := ⟨Try.prog, [(74, s74)], [], [], []⟩
def iv58 : List Iv := []
def t58 : VC :=
 (.bind (.len (.var 0))
 (.ite (.le (.lit 1) (.var 0))
  (.ite (.lt (.lit 40) (.var 0))
   (.fin (.e (.lit 0) .nil))
   (.loop 1 [(.lit 0)] [] [⟨(-9223372036854775808), 9223372036854775807⟩] []
    (.ite (.lt (.var 1) (.var 0))
     (.need [(.b (.le (.lit 0) (.var 1))), (.b (.lt (.var 1) (.len (.var 0))))]
     (.need [(.b (.lt (.add (.lit 0) (.var 1)) (.len (.var 0))))]
     (.bind (.at (.var 0) (.add (.lit 0) (.var 1)))
     (.call 74 (.e (.var 2) .nil) 1
     (.ite (.le (.var 3) (.lit 1000000000))
      (.need [(.b (.le (.lit 0) (.var 1))), (.b (.lt (.var 1) (.len (.var 0))))]
      (.need [(.b (.lt (.add (.lit 0) (.var 1)) (.len (.var 0))))]
      (.bind (.at (.var 0) (.add (.lit 0) (.var 1)))
      (.ite (.le (.lit (-1000000000)) (.var 4))
       (.ite (.lt (.lit 0) (.var 1))
        (.need [(.b (.lt (.var 1) (.len (.var 0))))]
        (.need [(.b (.lt (.add (.lit 0) (.var 1)) (.len (.var 0))))]
        (.bind (.at (.var 0) (.add (.lit 0) (.var 1)))
        (.ite (.lt (.var 5) (.lit 1))
         (.fin (.e (.lit 0) .nil))
         (.bind (.wrap .i64 (.add (.var 1) (.lit 1)))
         (.again 1 1 1 [⟨(-9223372036854775808), 9223372036854775807⟩] [(.var 6)] []))))))
        (.again 1 1 1 [⟨(-9223372036854775808), 9223372036854775807⟩] [(.add (.var 1) (.lit 1))] []))
       (.fin (.e (.lit 0) .nil))))))
      (.fin (.e (.lit 0) .nil)))))))
     (.ite (.not (.eq (.var 0) (.lit 1)))
      (.need [(.b (.lt (.sub (.var 0) (.lit 1)) (.len (.var 0))))]
      (.need [(.b (.lt (.add (.lit 0) (.sub (.var 0) (.lit 1))) (.len (.var 0))))]
      (.bind (.at (.var 0) (.add (.lit 0) (.sub (.var 0) (.lit 1))))
      (.fin (.e (.ite (.le (.lit 2) (.var 2)) (.lit 1) (.lit 0)) .nil)))))
      (.fin (.e (.lit 1) .nil))))))
  (.fin (.e (.lit 0) .nil))))
theorem vc58 : vcOfI ⟨c58, [(5, ⟨1, [4], [], [13, 14, 15, 18, 19, 20, 21, 22, 23, 24, 25, 26, 27, 28, 29, 30, 31, 32, 33, 34, 35, 36, 37, 38, 39, 40, 41, 2, 16, 17, 48], [⟨(-9223372036854775808), 9223372036854775807⟩], [], []⟩)]⟩ iv58 (parLvs s58.params) 250 Try.f58 s58 = t58 := by kernel_rfl
set_option linter.unusedVariables false in
def p58 (T : Tab) (I : Nat → Env → Env → Prop) (M : Nat → Env → Env → Nat) (pre : Nat → List Int → List (List Int) → Prop) (post : List Int → List (List Int) → Prop) (l0 : List Int) : Prop :=
 ∀ v0 : Int, v0 = (List.length l0 : Int) →
 ((decide ((1 : Int) ≤ v0) = true →
  ((decide ((40 : Int) < v0) = true →
   post [0] []) ∧ (decide ((40 : Int) < v0) = false →
   ((allHas [⟨(-9223372036854775808), 9223372036854775807⟩] [0] ∧ I 1 ⟨[v0], [l0]⟩ ⟨[0], []⟩) ∧ ∀ v1 : Int, allHas [⟨(-9223372036854775808), 9223372036854775807⟩] [v1] → I 1 ⟨[v0], [l0]⟩ ⟨[v1], []⟩ →
    ((decide ((v1 : Int) < v0) = true →
     ((decide ((0 : Int) ≤ v1) = true ∧ decide ((v1 : Int) < (List.length l0 : Int)) = true) ∧ ((decide ((0 : Int) ≤ v1) = true ∧ decide ((v1 : Int) < (List.length l0 : Int)) = true) →
     ((decide (((0 + v1) : Int) < (List.length l0 : Int)) = true) ∧ ((decide (((0 + v1) : Int) < (List.length l0 : Int)) = true) →
     ∀ v2 : Int, v2 = (List.getD l0 (Int.toNat (0 + v1)) 0) →
     ∀ v3 : Int, [v3] = T.out 74 1 [v2] →
     ((decide ((v3 : Int) ≤ 1000000000) = true →
      ((decide ((0 : Int) ≤ v1) = true ∧ decide ((v1 : Int) < (List.length l0 : Int)) = true) ∧ ((decide ((0 : Int) ≤ v1) = true ∧ decide ((v1 : Int) < (List.length l0 : Int)) = true) →
      ((decide (((0 + v1) : Int) < (List.length l0 : Int)) = true) ∧ ((decide (((0 + v1) : Int) < (List.length l0 : Int)) = true) →
      ∀ v4 : Int, v4 = (List.getD l0 (Int.toNat (0 + v1)) 0) →
      ((decide (((-1000000000) : Int) ≤ v4) = true →
       ((decide ((0 : Int) < v1) = true →
        ((decide ((v1 : Int) < (List.length l0 : Int)) = true) ∧ ((decide ((v1 : Int) < (List.length l0 : Int)) = true) →
        ((decide (((0 + v1) : Int) < (List.length l0 : Int)) = true) ∧ ((decide (((0 + v1) : Int) < (List.length l0 : Int)) = true) →
        ∀ v5 : Int, v5 = (List.getD l0 (Int.toNat (0 + v1)) 0) →
        ((decide ((v5 : Int) < 1) = true →
         post [0] []) ∧ (decide ((v5 : Int) < 1) = false →
         ∀ v6 : Int, v6 = (IntKind.wrap .i64 (v1 + 1)) →
         (allHas [⟨(-9223372036854775808), 9223372036854775807⟩] [v6] ∧ I 1 ⟨[v0], [l0]⟩ ⟨[v6], []⟩ ∧ M 1 ⟨[v0], [l0]⟩ ⟨[v6], []⟩ < M 1 ⟨[v0], [l0]⟩ ⟨[v1], []⟩)))))))) ∧ (decide ((0 : Int) < v1) = false →
        (allHas [⟨(-9223372036854775808), 9223372036854775807⟩] [(v1 + 1)] ∧ I 1 ⟨[v0], [l0]⟩ ⟨[(v1 + 1)], []⟩ ∧ M 1 ⟨[v0], [l0]⟩ ⟨[(v1 + 1)], []⟩ < M 1 ⟨[v0], [l0]⟩ ⟨[v1], []⟩)))) ∧ (decide (((-1000000000) : Int) ≤ v4) = false →
       post [0] []))))))) ∧ (decide ((v3 : Int) ≤ 1000000000) = false →
      post [0] []))))))) ∧ (decide ((v1 : Int) < v0) = false →
     (((!decide ((v0 : Int) = 1)) = true →
      ((decide (((v0 - 1) : Int) < (List.length l0 : Int)) = true) ∧ ((decide (((v0 - 1) : Int) < (List.length l0 : Int)) = true) →
      ((decide (((0 + (v0 - 1)) : Int) < (List.length l0 : Int)) = true) ∧ ((decide (((0 + (v0 - 1)) : Int) < (List.length l0 : Int)) = true) →
      ∀ v2 : Int, v2 = (List.getD l0 (Int.toNat (0 + (v0 - 1))) 0) →
      post [(if decide ((2 : Int) ≤ v2) = true then 1 else 0)] []))))) ∧ ((!decide ((v0 : Int) = 1)) = false →
      post [1] [])))))))) ∧ (decide ((1 : Int) ≤ v0) = false →
  post [0] []))
theorem q58 (T : Tab) (I : Nat → Env → Env → Prop) (M : Nat → Env → Env → Nat) (pre : Nat → List Int → List (List Int) → Prop) (post : List Int → List (List Int) → Prop) (l0 : List Int) : t58.plain T (presG pre I M) post ⟨[], [l0]⟩ = p58 T I M pre post l0 := by kernel_rfl
theorem k58 (T : Tab) (I : Nat → Env → Env → Prop) (M : Nat → Env → Env → Nat) (pre : Nat → List Int → List (List Int) → Prop) (hs : SubSig T c58.sigs) (ht : TotG pre c58.sigs) (hg : T.sig 58 = some s58) (hC : CtAll Try.prog T.fns (presQ pre) c58.sigs) (hk : CpAll Try.prog c58.cps) (hi : ∀ xs ls, allHas (parIvs s58.params) xs → pre 58 xs ls → allHas iv58 xs)
    (h : ∀ (l0 : List Int), allHas iv58 [] → allL (parLvs s58.params) [l0] → pre 58 [] [l0] → p58 T I M pre (fun ys _ => ys = T.app 58 [] [l0]) l0) : CT Try.prog T.fns (presQ pre) 58 s58 :=
  T.ctg (F := ⟨c58, [(5, ⟨1, [4], [], [13, 14, 15, 18, 19, 20, 21, 22, 23, 24, 25, 26, 27, 28, 29, 30, 31, 32, 33, 34, 35, 36, 37, 38, 39, 40, 41, 2, 16, 17, 48], [⟨(-9223372036854775808), 9223372036854775807⟩], [], []⟩)]⟩) (fuel := 250) vc58 Try.checked.mixed hs ht hg hC hk Try.func58 I M (fun xs ls h1 h2 h3 => ⟨hi xs ls h1 h3, h2⟩) fun xs ls hx hl hp => by
    match xs, ls, hx, hl, hp with
    | [], [l0], hx, hl, hp => rw [q58]; exact h l0 hx hl hp
/-- loop.example/g01242/impl.ValidTerms -/
def s60 : Sig := ⟨[.lst [.i64]], [(false, [.b])], true⟩
noncomputable def c60 : Cfg := ⟨Try.prog, [(44, s44)], [], [], []⟩
def iv60 : List Iv := []
def t60 : VC :=
 (.ite (.le (.lit 1) (.len (.var 0)))
  (.ite (.lt (.lit 40) (.len (.var 0)))
   (.fin (.e (.lit 0) .nil))
   (.loop 1 [(.lit 0)] [] [⟨(-9223372036854775808), 9223372036854775807⟩] []
    (.ite (.lt (.var 0) (.len (.var 0)))
     (.need [(.b (.le (.lit 0) (.var 0))), (.b (.lt (.var 0) (.len (.var 0))))]
     (.need [(.b (.lt (.add (.lit 0) (.var 0)) (.len (.var 0))))]
     (.bind (.at (.var 0) (.add (.lit 0) (.var 0)))
     (.call 44 (.e (.var 1) (.e (.lit 1000000000) .nil)) 1
     (.ite (.eq (.var 2) (.lit 1))
      (.ite (.lt (.lit 0) (.var 0))
       (.ite (.lt (.var 1) (.lit 1))
        (.fin (.e (.lit 0) .nil))
        (.again 1 0 1 [⟨(-9223372036854775808), 9223372036854775807⟩] [(.wrap .i64 (.add (.var 0) (.lit 1)))] []))
       (.again 1 0 1 [⟨(-9223372036854775808), 9223372036854775807⟩] [(.add (.var 0) (.lit 1))] []))
      (.fin (.e (.lit 0) .nil)))))))
     (.ite (.not (.eq (.len (.var 0)) (.lit 1)))
      (.need [(.b (.le (.lit 0) (.sub (.len (.var 0)) (.lit 1)))), (.b (.lt (.sub (.len (.var 0)) (.lit 1)) (.len (.var 0))))]
      (.need [(.b (.lt (.add (.lit 0) (.sub (.len (.var 0)) (.lit 1))) (.len (.var 0))))]
      (.bind (.at (.var 0) (.add (.lit 0) (.sub (.len (.var 0)) (.lit 1))))
      (.fin (.e (.ite (.le (.lit 2) (.var 1)) (.lit 1) (.lit 0)) .nil)))))
      (.fin (.e (.lit 1) .nil))))))
  (.fin (.e (.lit 0) .nil)))
theorem vc60 : vcOfI ⟨c60, [(4, ⟨1, [15], [], [16, 17, 18, 19, 3, 4, 20, 21, 22, 23, 24, 25, 26, 27, 28, 29, 30, 2, 31, 40], [⟨(-9223372036854775808), 9223372036854775807⟩], [], []⟩)]⟩ iv60 (parLvs s60.params) 250 Try.f60 s60 = t60 := by kernel_rfl
set_option linter.unusedVariables false in
def p60 (T : Tab) (I : Nat → Env → Env → Prop) (M : Nat → Env → Env → Nat) (pre : Nat → List Int → List (List Int) → Prop) (post : List Int → List (List Int) → Prop) (l0 : List Int) : Prop :=
 ((decide ((1 : Int) ≤ (List.length l0 : Int)) = true →
  ((decide ((40 : Int) < (List.length l0 : Int)) = true →
   post [0] []) ∧ (decide ((40 : Int) < (List.length l0 : Int)) = false →
   ((allHas [⟨(-9223372036854775808), 9223372036854775807⟩] [0] ∧ I 1 ⟨[], [l0]⟩ ⟨[0], []⟩) ∧ ∀ v0 : Int, allHas [⟨(-9223372036854775808), 9223372036854775807⟩] [v0] → I 1 ⟨[], [l0]⟩ ⟨[v0], []⟩ →
    ((decide ((v0 : Int) < (List.length l0 : Int)) = true →
     ((decide ((0 : Int) ≤ v0) = true ∧ decide ((v0 : Int) < (List.length l0 : Int)) = true) ∧ ((decide ((0 : Int) ≤ v0) = true ∧ decide ((v0 : Int) < (List.length l0 : Int)) = true) →
     ((decide (((0 + v0) : Int) < (List.length l0 : Int)) = true) ∧ ((decide (((0 + v0) : Int) < (List.length l0 : Int)) = true) →
     ∀ v1 : Int, v1 = (List.getD l0 (Int.toNat (0 + v0)) 0) →
     ∀ v2 : Int, [v2] = T.out 44 1 [v1, 1000000000] →
     ((decide ((v2 : Int) = 1) = true →
      ((decide ((0 : Int) < v0) = true →
       ((decide ((v1 : Int) < 1) = true →
        post [0] []) ∧ (decide ((v1 : Int) < 1) = false →
        (allHas [⟨(-9223372036854775808), 9223372036854775807⟩] [(IntKind.wrap .i64 (v0 + 1))] ∧ I 1 ⟨[], [l0]⟩ ⟨[(IntKind.wrap .i64 (v0 + 1))], []⟩ ∧ M 1 ⟨[], [l0]⟩ ⟨[(IntKind.wrap .i64 (v0 + 1))], []⟩ < M 1 ⟨[], [l0]⟩ ⟨[v0], []⟩)))) ∧ (decide ((0 : Int) < v0) = false →
       (allHas [⟨(-9223372036854775808), 9223372036854775807⟩] [(v0 + 1)] ∧ I 1 ⟨[], [l0]⟩ ⟨[(v0 + 1)], []⟩ ∧ M 1 ⟨[], [l0]⟩ ⟨[(v0 + 1)], []⟩ < M 1 ⟨[], [l0]⟩ ⟨[v0], []⟩)))) ∧ (decide ((v2 : Int) = 1) = false →
      post [0] []))))))) ∧ (decide ((v0 : Int) < (List.length l0 : Int)) = false →
     (((!decide (((List.length l0 : Int) : Int) = 1)) = true →
      ((decide ((0 : Int) ≤ ((List.length l0 : Int) - 1)) = true ∧ decide ((((List.length l0 : Int) - 1) : Int) < (List.length l0 : Int)) = true) ∧ ((decide ((0 : Int) ≤ ((List.length l0 : Int) - 1)) = true ∧ decide ((((List.length l0 : Int) - 1) : Int) < (List.length l0 : Int)) = true) →
      ((decide (((0 + ((List.length l0 : Int) - 1)) : Int) < (List.length l0 : Int)) = true) ∧ ((decide (((0 + ((List.length l0 : Int) - 1)) : Int) < (List.length l0 : Int)) = true) →
      ∀ v1 : Int, v1 = (List.getD l0 (Int.toNat (0 + ((List.length l0 : Int) - 1))) 0) →
      post [(if decide ((2 : Int) ≤ v1) = true then 1 else 0)] []))))) ∧ ((!decide (((List.length l0 : Int) : Int) = 1)) = false →
      post [1] [])))))))) ∧ (decide ((1 : Int) ≤ (List.length l0 : Int)) = false →
  post [0] []))
theorem q60 (T : Tab) (I : Nat → Env → Env → Prop) (M : Nat → Env → Env → Nat) (pre : Nat → List Int → List (List Int) → Prop) (post : List Int → List (List Int) → Prop) (l0 : List Int) : t60.plain T (presG pre I M) post ⟨[], [l0]⟩ = p60 T I M pre post l0 := by kernel_rfl
theorem k60 (T : Tab) (I : Nat → Env → Env → Prop) (M : Nat → Env → Env → Nat) (pre : Nat → List Int → List (List Int) → Prop) (hs : SubSig T c60.sigs) (ht : TotG pre c60.sigs) (hg : T.sig 60 = some s60) (hC : CtAll Try.prog T.fns (presQ pre) c60.sigs) (hk : CpAll Try.prog c60.cps) (hi : ∀ xs ls, allHas (parIvs s60.params) xs → pre 60 xs ls → allHas iv60 xs)
    (h : ∀ (l0 : List Int), allHas iv60 [] → allL (parLvs s60.params) [l0] → pre 60 [] [l0] → p60 T I M pre (fun ys _ => ys = T.app 60 [] [l0]) l0) : CT Try.prog T.fns (presQ pre) 60 s60 :=
  T.ctg (F := ⟨c60, [(4, ⟨1, [15], [], [16, 17, 18, 19, 3, 4, 20, 21, 22, 23, 24, 25, 26, 27, 28, 29, 30, 2, 31, 40], [⟨(-9223372036854775808), 9223372036854775807⟩], [], []⟩)]⟩) (fuel := 250) vc60 Try.checked.mixed hs ht hg hC hk Try.func60 I M (fun xs ls h1 h2 h3 => ⟨hi xs ls h1 h3, h2⟩) fun xs ls hx hl hp => by
    match xs, ls, hx, hl, hp with
    | [], [l0], hx, hl, hp => rw [q60]; exact h l0 hx hl hp
/-- loop.example/g01242/spec.l04Value -/
def s59 : Sig := ⟨[.lst [.i64]], [(true, [.i .i64, .i .i64]), (false, [.i .i64])], false⟩
noncomputable def c59 : Cfg := ⟨Try.prog, [(74, s74), (75, s75)], [], [], []⟩
def iv59 : List Iv := []
def t59 : VC :=
 (.need [(.b (.le (.lit 0) (.sub (.len (.var 0)) (.lit 1)))), (.b (.lt (.sub (.len (.var 0)) (.lit 1)) (.len (.var 0))))]
 (.need [(.b (.lt (.add (.lit 0) (.sub (.len (.var 0)) (.lit 1))) (.len (.var 0))))]
 (.bind (.at (.var 0) (.add (.lit 0) (.sub (.len (.var 0)) (.lit 1))))
 (.bind (.sub (.len (.var 0)) (.lit 2))
 (.loop 1 [(.var 0), (.lit 1), (.var 1)] [] [⟨(-9223372036854775808), 9223372036854775807⟩, ⟨(-9223372036854775808), 9223372036854775807⟩, ⟨(-9223372036854775808), 9223372036854775807⟩] []
  (.ite (.le (.lit 0) (.var 4))
   (.call 74 (.e (.var 2) .nil) 1
   (.ite (.le (.var 5) (.lit 2147483648))
    (.ite (.lt (.lit 2147483648) (.var 3))
     (.fin (.e (.lit 0) (.e (.lit 0) (.e (.lit 3) .nil))))
     (.need [(.b (.lt (.var 4) (.len (.var 0))))]
     (.need [(.b (.lt (.add (.lit 0) (.var 4)) (.len (.var 0))))]
     (.bind (.at (.var 0) (.add (.lit 0) (.var 4)))
     (.bind (.wrap .i64 (.add (.wrap .i64 (.mul (.var 6) (.var 2))) (.var 3)))
     (.again 1 2 1 [⟨(-9223372036854775808), 9223372036854775807⟩, ⟨(-9223372036854775808), 9223372036854775807⟩, ⟨(-9223372036854775808), 9223372036854775807⟩] [(.var 7), (.var 2), (.sub (.var 4) (.lit 1))] []))))))
    (.fin (.e (.lit 0) (.e (.lit 0) (.e (.lit 3) .nil))))))
   (.need [(.pre 75 (.e (.var 2) (.e (.var 3) .nil)))]
   (.call 75 (.e (.var 2) (.e (.var 3) .nil)) 3
   (.fin (.e (.var 5) (.e (.var 6) (.e (.var 7) .nil))))))))))))
theorem vc59 : vcOfI ⟨c59, [(4, ⟨1, [4, 5, 6], [], [17, 18, 21, 22, 23, 24, 25, 26, 27, 28, 3, 29, 30, 31, 32, 33, 34, 35, 36, 7, 37, 38, 19, 20, 12], [⟨(-9223372036854775808), 9223372036854775807⟩, ⟨(-9223372036854775808), 9223372036854775807⟩, ⟨(-9223372036854775808), 9223372036854775807⟩], [], []⟩)]⟩ iv59 (parLvs s59.params) 250 Try.f59 s59 = t59 := by kernel_rfl
set_option linter.unusedVariables false in
def p59 (T : Tab) (I : Nat → Env → Env → Prop) (M : Nat → Env → Env → Nat) (pre : Nat → List Int → List (List Int) → Prop) (post : List Int → List (List Int) → Prop) (l0 : List Int) : Prop :=
 ((decide ((0 : Int) ≤ ((List.length l0 : Int) - 1)) = true ∧ decide ((((List.length l0 : Int) - 1) : Int) < (List.length l0 : Int)) = true) ∧ ((decide ((0 : Int) ≤ ((List.length l0 : Int) - 1)) = true ∧ decide ((((List.length l0 : Int) - 1) : Int) < (List.length l0 : Int)) = true) →
 ((decide (((0 + ((List.length l0 : Int) - 1)) : Int) < (List.length l0 : Int)) = true) ∧ ((decide (((0 + ((List.length l0 : Int) - 1)) : Int) < (List.length l0 : Int)) = true) →
 ∀ v0 : Int, v0 = (List.getD l0 (Int.toNat (0 + ((List.length l0 : Int) - 1))) 0) →
 ∀ v1 : Int, v1 = ((List.length l0 : Int) - 2) →
 ((allHas [⟨(-9223372036854775808), 9223372036854775807⟩, ⟨(-9223372036854775808), 9223372036854775807⟩, ⟨(-9223372036854775808), 9223372036854775807⟩] [v0, 1, v1] ∧ I 1 ⟨[v0, v1], [l0]⟩ ⟨[v0, 1, v1], []⟩) ∧ ∀ v2 v3 v4 : Int, allHas [⟨(-9223372036854775808), 9223372036854775807⟩, ⟨(-9223372036854775808), 9223372036854775807⟩, ⟨(-9223372036854775808), 9223372036854775807⟩] [v2, v3, v4] → I 1 ⟨[v0, v1], [l0]⟩ ⟨[v2, v3, v4], []⟩ →
  ((decide ((0 : Int) ≤ v4) = true →
   ∀ v5 : Int, [v5] = T.out 74 1 [v2] →
   ((decide ((v5 : Int) ≤ 2147483648) = true →
    ((decide ((2147483648 : Int) < v3) = true →
     post [0, 0, 3] []) ∧ (decide ((2147483648 : Int) < v3) = false →
     ((decide ((v4 : Int) < (List.length l0 : Int)) = true) ∧ ((decide ((v4 : Int) < (List.length l0 : Int)) = true) →
     ((decide (((0 + v4) : Int) < (List.length l0 : Int)) = true) ∧ ((decide (((0 + v4) : Int) < (List.length l0 : Int)) = true) →
     ∀ v6 : Int, v6 = (List.getD l0 (Int.toNat (0 + v4)) 0) →
     ∀ v7 : Int, v7 = (IntKind.wrap .i64 ((IntKind.wrap .i64 (v6 * v2)) + v3)) →
     (allHas [⟨(-9223372036854775808), 9223372036854775807⟩, ⟨(-9223372036854775808), 9223372036854775807⟩, ⟨(-9223372036854775808), 9223372036854775807⟩] [v7, v2, (v4 - 1)] ∧ I 1 ⟨[v0, v1], [l0]⟩ ⟨[v7, v2, (v4 - 1)], []⟩ ∧ M 1 ⟨[v0, v1], [l0]⟩ ⟨[v7, v2, (v4 - 1)], []⟩ < M 1 ⟨[v0, v1], [l0]⟩ ⟨[v2, v3, v4], []⟩)))))))) ∧ (decide ((v5 : Int) ≤ 2147483648) = false →
    post [0, 0, 3] []))) ∧ (decide ((0 : Int) ≤ v4) = false →
   ((pre 75 [v2, v3] []) ∧ ((pre 75 [v2, v3] []) →
   ∀ v5 v6 v7 : Int, [v5, v6, v7] = T.out 75 3 [v2, v3] →
   post [v5, v6, v7] [])))))))))
theorem q59 (T : Tab) (I : Nat → Env → Env → Prop) (M : Nat → Env → Env → Nat) (pre : Nat → List Int → List (List Int) → Prop) (post : List Int → List (List Int) → Prop) (l0 : List Int) : t59.plain T (presG pre I M) post ⟨[], [l0]⟩ = p59 T I M pre post l0 := by kernel_rfl
theorem k59 (T : Tab) (I : Nat → Env → Env → Prop) (M : Nat → Env → Env → Nat) (pre : Nat → List Int → List (List Int) → Prop) (hs : SubSig T c59.sigs) (ht : TotG pre c59.sigs) (hg : T.sig 59 = some s59) (hC : CtAll Try.prog T.fns (presQ pre) c59.sigs) (hk : CpAll Try.prog c59.cps) (hi : ∀ xs ls, allHas (parIvs s59.params) xs → pre 59 xs ls → allHas iv59 xs)
    (h : ∀ (l0 : List Int), allHas iv59 [] → allL (parLvs s59.params) [l0] → pre 59 [] [l0] → p59 T I M pre (fun ys _ => ys = T.app 59 [] [l0]) l0) : CT Try.prog T.fns (presQ pre) 59 s59 :=
  T.ctg (F := ⟨c59, [(4, ⟨1, [4, 5, 6], [], [17, 18, 21, 22, 23, 24, 25, 26, 27, 28, 3, 29, 30, 31, 32, 33, 34, 35, 36, 7, 37, 38, 19, 20, 12], [⟨(-9223372036854775808), 9223372036854775807⟩, ⟨(-9223372036854775808), 9223372036854775807⟩, ⟨(-9223372036854775808), 9223372036854775807⟩], [], []⟩)]⟩) (fuel := 250) vc59 Try.checked.mixed hs ht hg hC hk Try.func59 I M (fun xs ls h1 h2 h3 => ⟨hi xs ls h1 h3, h2⟩) fun xs ls hx hl hp => by
    match xs, ls, hx, hl, hp with
    | [], [l0], hx, hl, hp => rw [q59]; exact h l0 hx hl hp
/-- loop.example/g01242/impl.ConvergentsOf -/
def s36 : LSig := ⟨[.lst [.i64]], [.l false [[.i64, .i64]] [61], .n false [.i .i64]], true⟩
noncomputable def c36 : Cfg := ⟨Try.prog, [(60, s60), (61, s61)], [], [], []⟩
def iv36 : List Iv := []
def t36 : VC :=
 (.call 60 (.l (.var 0) .nil) 1
 (.ite (.not (.eq (.var 0) (.lit 1)))
  (.fin (.e (.lit 1) (.e (.lit 1) (.l (.lit []) .nil))))
  (.need [(.b (.le (.len (.var 0)) (.lit 1099511627776)))]
  (.loop 1 [(.lit 0), (.lit 0), (.lit 1), (.lit 1), (.lit 0)] [(.zeros (.lit 0))] [⟨(-9223372036854775808), 9223372036854775807⟩, ⟨(-9223372036854775808), 9223372036854775807⟩, ⟨(-9223372036854775808), 9223372036854775807⟩, ⟨(-9223372036854775808), 9223372036854775807⟩, ⟨(-9223372036854775808), 9223372036854775807⟩] [(⟨(-9223372036854775808), 9223372036854775807⟩, 9223372036854775807)]
   (.ite (.lt (.var 1) (.len (.var 0)))
    (.need [(.b (.le (.lit 0) (.var 1))), (.b (.lt (.var 1) (.len (.var 0))))]
    (.need [(.b (.lt (.add (.lit 0) (.var 1)) (.len (.var 0))))]
    (.bind (.at (.var 0) (.add (.lit 0) (.var 1)))
    (.call 61 (.e (.wrap .i64 (.add (.wrap .i64 (.mul (.var 6) (.var 4))) (.var 2))) (.e (.wrap .i64 (.add (.wrap .i64 (.mul (.var 6) (.var 5))) (.var 3))) .nil)) 3
    (.ite (.not (.eq (.var 9) (.lit 0)))
     (.fin (.e (.lit 1) (.e (.var 9) (.l (.lit []) .nil))))
     (.need [(.b (.le (.len (.cat (.var 1) (.cat (.one (.var 7)) (.one (.var 8))))) (.lit 1099511627776)))]
     (.need [(.b (.le (.len (.cat (.var 1) (.cat (.one (.var 7)) (.one (.var 8))))) (.lit 9223372036854775807)))]
     (.again 1 1 1 [⟨(-9223372036854775808), 9223372036854775807⟩, ⟨(-9223372036854775808), 9223372036854775807⟩, ⟨(-9223372036854775808), 9223372036854775807⟩, ⟨(-9223372036854775808), 9223372036854775807⟩, ⟨(-9223372036854775808), 9223372036854775807⟩] [(.wrap .i64 (.add (.var 1) (.lit 1))), (.var 4), (.var 5), (.var 7), (.var 8)] [(.cat (.var 1) (.cat (.one (.var 7)) (.one (.var 8))))]))))))))
    (.need [(.b (.eq (.div (.len (.var 1)) (.lit 2)) (.div (.len (.var 1)) (.lit 2)))), (.b (.le (.len (.var 1)) (.lit 1099511627776)))]
    (.fin (.e (.lit 0) (.e (.lit 0) (.l (.var 1) .nil))))))))))
theorem vc36 : vcLf ⟨c36, [(6, ⟨1, [21], [2, 3], [22, 23, 24, 8, 26, 27, 28, 29, 30, 31, 32, 33, 34, 35, 36, 37, 38, 39, 40, 25, 41, 42, 9, 10, 43, 44, 45, 2, 3, 46, 47, 48, 49, 4, 50, 51, 52], [⟨(-9223372036854775808), 9223372036854775807⟩, ⟨(-9223372036854775808), 9223372036854775807⟩, ⟨(-9223372036854775808), 9223372036854775807⟩, ⟨(-9223372036854775808), 9223372036854775807⟩, ⟨(-9223372036854775808), 9223372036854775807⟩], [1], [1]⟩)]⟩ iv36 (parLvs s36.params) 250 Try.f36 s36 = t36 := by kernel_rfl
set_option linter.unusedVariables false in
def p36 (T : Tab) (I : Nat → Env → Env → Prop) (M : Nat → Env → Env → Nat) (pre : Nat → List Int → List (List Int) → Prop) (post : List Int → List (List Int) → Prop) (l0 : List Int) : Prop :=
 ∀ v0 : Int, [v0] = T.outL 60 1 [] [l0] →
 (((!decide ((v0 : Int) = 1)) = true →
  post [1, 1] [([] : List Int)]) ∧ ((!decide ((v0 : Int) = 1)) = false →
  ((decide (((List.length l0 : Int) : Int) ≤ 1099511627776) = true) ∧ ((decide (((List.length l0 : Int) : Int) ≤ 1099511627776) = true) →
  ((allHas [⟨(-9223372036854775808), 9223372036854775807⟩, ⟨(-9223372036854775808), 9223372036854775807⟩, ⟨(-9223372036854775808), 9223372036854775807⟩, ⟨(-9223372036854775808), 9223372036854775807⟩, ⟨(-9223372036854775808), 9223372036854775807⟩] [0, 0, 1, 1, 0] ∧ I 1 ⟨[v0], [l0]⟩ ⟨[0, 0, 1, 1, 0], [(List.replicate (Int.toNat 0) (0 : Int))]⟩) ∧ ∀ v1 v2 v3 v4 v5 : Int, ∀ l1 : List Int, allHas [⟨(-9223372036854775808), 9223372036854775807⟩, ⟨(-9223372036854775808), 9223372036854775807⟩, ⟨(-9223372036854775808), 9223372036854775807⟩, ⟨(-9223372036854775808), 9223372036854775807⟩, ⟨(-9223372036854775808), 9223372036854775807⟩] [v1, v2, v3, v4, v5] → allL [(⟨(-9223372036854775808), 9223372036854775807⟩, 9223372036854775807)] [l1] → I 1 ⟨[v0], [l0]⟩ ⟨[v1, v2, v3, v4, v5], [l1]⟩ →
   ((decide ((v1 : Int) < (List.length l0 : Int)) = true →
    ((decide ((0 : Int) ≤ v1) = true ∧ decide ((v1 : Int) < (List.length l0 : Int)) = true) ∧ ((decide ((0 : Int) ≤ v1) = true ∧ decide ((v1 : Int) < (List.length l0 : Int)) = true) →
    ((decide (((0 + v1) : Int) < (List.length l0 : Int)) = true) ∧ ((decide (((0 + v1) : Int) < (List.length l0 : Int)) = true) →
    ∀ v6 : Int, v6 = (List.getD l0 (Int.toNat (0 + v1)) 0) →
    ∀ v7 v8 v9 : Int, [v7, v8, v9] = T.out 61 3 [(IntKind.wrap .i64 ((IntKind.wrap .i64 (v6 * v4)) + v2)), (IntKind.wrap .i64 ((IntKind.wrap .i64 (v6 * v5)) + v3))] →
    (((!decide ((v9 : Int) = 0)) = true →
     post [1, v9] [([] : List Int)]) ∧ ((!decide ((v9 : Int) = 0)) = false →
     ((decide (((List.length (l1 ++ ([v7] ++ [v8])) : Int) : Int) ≤ 1099511627776) = true) ∧ ((decide (((List.length (l1 ++ ([v7] ++ [v8])) : Int) : Int) ≤ 1099511627776) = true) →
     ((decide (((List.length (l1 ++ ([v7] ++ [v8])) : Int) : Int) ≤ 9223372036854775807) = true) ∧ ((decide (((List.length (l1 ++ ([v7] ++ [v8])) : Int) : Int) ≤ 9223372036854775807) = true) →
     (allHas [⟨(-9223372036854775808), 9223372036854775807⟩, ⟨(-9223372036854775808), 9223372036854775807⟩, ⟨(-9223372036854775808), 9223372036854775807⟩, ⟨(-9223372036854775808), 9223372036854775807⟩, ⟨(-9223372036854775808), 9223372036854775807⟩] [(IntKind.wrap .i64 (v1 + 1)), v4, v5, v7, v8] ∧ I 1 ⟨[v0], [l0]⟩ ⟨[(IntKind.wrap .i64 (v1 + 1)), v4, v5, v7, v8], [(l1 ++ ([v7] ++ [v8]))]⟩ ∧ M 1 ⟨[v0], [l0]⟩ ⟨[(IntKind.wrap .i64 (v1 + 1)), v4, v5, v7, v8], [(l1 ++ ([v7] ++ [v8]))]⟩ < M 1 ⟨[v0], [l0]⟩ ⟨[v1, v2, v3, v4, v5], [l1]⟩)))))))))))) ∧ (decide ((v1 : Int) < (List.length l0 : Int)) = false →
    ((decide ((((List.length l1 : Int) / 2) : Int) = ((List.length l1 : Int) / 2)) = true ∧ decide (((List.length l1 : Int) : Int) ≤ 1099511627776) = true) ∧ ((decide ((((List.length l1 : Int) / 2) : Int) = ((List.length l1 : Int) / 2)) = true ∧ decide (((List.length l1 : Int) : Int) ≤ 1099511627776) = true) →
    post [0, 0] [l1])))))))))
theorem q36 (T : Tab) (I : Nat → Env → Env → Prop) (M : Nat → Env → Env → Nat) (pre : Nat → List Int → List (List Int) → Prop) (post : List Int → List (List Int) → Prop) (l0 : List Int) : t36.plain T (presG pre I M) post ⟨[], [l0]⟩ = p36 T I M pre post l0 := by kernel_rfl
theorem k36 (T : Tab) (I : Nat → Env → Env → Prop) (M : Nat → Env → Env → Nat) (pre : Nat → List Int → List (List Int) → Prop) (hs : SubSig T c36.sigs) (ht : TotG pre c36.sigs) (hC : CtAll Try.prog T.fns (presQ pre) c36.sigs) (hk : CpAll Try.prog c36.cps) (hi : ∀ xs ls, allHas (parIvs s36.params) xs → pre 36 xs ls → allHas iv36 xs)
    (h : ∀ (l0 : List Int), allHas iv36 [] → allL (parLvs s36.params) [l0] → pre 36 [] [l0] → p36 T I M pre (fun ys zs => T.fns 36 [] [l0] = (ys, zs)) l0) : CTL Try.prog T.fns (presQ pre) 36 s36 :=
  T.ctl (F := ⟨c36, [(6, ⟨1, [21], [2, 3], [22, 23, 24, 8, 26, 27, 28, 29, 30, 31, 32, 33, 34, 35, 36, 37, 38, 39, 40, 25, 41, 42, 9, 10, 43, 44, 45, 2, 3, 46, 47, 48, 49, 4, 50, 51, 52], [⟨(-9223372036854775808), 9223372036854775807⟩, ⟨(-9223372036854775808), 9223372036854775807⟩, ⟨(-9223372036854775808), 9223372036854775807⟩, ⟨(-9223372036854775808), 9223372036854775807⟩, ⟨(-9223372036854775808), 9223372036854775807⟩], [1], [1]⟩)]⟩) (fuel := 250) vc36 Try.checked.mixed hs ht hC hk Try.func36 I M (fun xs ls h1 h2 h3 => ⟨hi xs ls h1 h3, h2⟩) fun xs ls hx hl hp => by
    match xs, ls, hx, hl, hp with
    | [], [l0], hx, hl, hp => rw [q36]; exact h l0 hx hl hp
/-- loop.example/g01242/impl.RatioOf -/
def s41 : Sig := ⟨[.lst [.i64]], [(true, [.i .i64, .i .i64]), (false, [.i .i64])], true⟩
noncomputable def c41 : Cfg := ⟨Try.prog, [], [], [(36, s36)], []⟩
def iv41 : List Iv := []
def t41 : VC :=
 (.calll 36 (.l (.var 0) .nil) [⟨0, 1⟩, ⟨(-9223372036854775808), 9223372036854775807⟩] [(⟨(-9223372036854775808), 9223372036854775807⟩, 1099511627776)]
 (.ite (.eq (.var 0) (.lit 1))
  (.ite (.not (.eq (.var 1) (.lit 0)))
   (.fin (.e (.lit 0) (.e (.lit 0) (.e (.var 1) .nil))))
   (.fail 1))
  (.ite (.not (.eq (.var 1) (.lit 0)))
   (.fin (.e (.lit 0) (.e (.lit 0) (.e (.var 1) .nil))))
   (.need [(.b (.le (.lit 0) (.sub (.div (.len (.var 1)) (.lit 2)) (.lit 1)))), (.b (.lt (.sub (.div (.len (.var 1)) (.lit 2)) (.lit 1)) (.div (.len (.var 1)) (.lit 2))))]
   (.need [(.b (.lt (.add (.mul (.add (.lit 0) (.sub (.div (.len (.var 1)) (.lit 2)) (.lit 1))) (.lit 2)) (.lit 1)) (.len (.var 1))))]
   (.bind (.at (.var 1) (.mul (.add (.lit 0) (.sub (.div (.len (.var 1)) (.lit 2)) (.lit 1))) (.lit 2)))
   (.bind (.at (.var 1) (.add (.mul (.add (.lit 0) (.sub (.div (.len (.var 1)) (.lit 2)) (.lit 1))) (.lit 2)) (.lit 1)))
   (.fin (.e (.var 2) (.e (.var 3) (.e (.lit 0) .nil)))))))))))
theorem vc41 : vcOfI ⟨c41, []⟩ iv41 (parLvs s41.params) 250 Try.f41 s41 = t41 := by kernel_rfl
set_option linter.unusedVariables false in
def p41 (T : Tab) (I : Nat → Env → Env → Prop) (M : Nat → Env → Env → Nat) (pre : Nat → List Int → List (List Int) → Prop) (post : List Int → List (List Int) → Prop) (l0 : List Int) : Prop :=
 ∀ v0 v1 : Int, ∀ l1 : List Int, allHas [⟨0, 1⟩, ⟨(-9223372036854775808), 9223372036854775807⟩] [v0, v1] → allL [(⟨(-9223372036854775808), 9223372036854775807⟩, 1099511627776)] [l1] → ([v0, v1], [l1]) = T.fns 36 [] [l0] →
 ((decide ((v0 : Int) = 1) = true →
  (((!decide ((v1 : Int) = 0)) = true →
   post [0, 0, v1] []) ∧ ((!decide ((v1 : Int) = 0)) = false →
   False))) ∧ (decide ((v0 : Int) = 1) = false →
  (((!decide ((v1 : Int) = 0)) = true →
   post [0, 0, v1] []) ∧ ((!decide ((v1 : Int) = 0)) = false →
   ((decide ((0 : Int) ≤ (((List.length l1 : Int) / 2) - 1)) = true ∧ decide (((((List.length l1 : Int) / 2) - 1) : Int) < ((List.length l1 : Int) / 2)) = true) ∧ ((decide ((0 : Int) ≤ (((List.length l1 : Int) / 2) - 1)) = true ∧ decide (((((List.length l1 : Int) / 2) - 1) : Int) < ((List.length l1 : Int) / 2)) = true) →
   ((decide (((((0 + (((List.length l1 : Int) / 2) - 1)) * 2) + 1) : Int) < (List.length l1 : Int)) = true) ∧ ((decide (((((0 + (((List.length l1 : Int) / 2) - 1)) * 2) + 1) : Int) < (List.length l1 : Int)) = true) →
   ∀ v2 : Int, v2 = (List.getD l1 (Int.toNat ((0 + (((List.length l1 : Int) / 2) - 1)) * 2)) 0) →
   ∀ v3 : Int, v3 = (List.getD l1 (Int.toNat (((0 + (((List.length l1 : Int) / 2) - 1)) * 2) + 1)) 0) →
   post [v2, v3, 0] []))))))))
theorem q41 (T : Tab) (I : Nat → Env → Env → Prop) (M : Nat → Env → Env → Nat) (pre : Nat → List Int → List (List Int) → Prop) (post : List Int → List (List Int) → Prop) (l0 : List Int) : t41.plain T (presG pre I M) post ⟨[], [l0]⟩ = p41 T I M pre post l0 := by kernel_rfl
theorem k41 (T : Tab) (I : Nat → Env → Env → Prop) (M : Nat → Env → Env → Nat) (pre : Nat → List Int → List (List Int) → Prop) (hs : SubSig T c41.sigs) (ht : TotG pre c41.sigs) (hg : T.sig 41 = some s41) (hC : CtAll Try.prog T.fns (presQ pre) c41.sigs) (hk : CpAll Try.prog c41.cps) (hlf : LfAll Try.prog T.fns (presQ pre) c41.lfs) (hi : ∀ xs ls, allHas (parIvs s41.params) xs → pre 41 xs ls → allHas iv41 xs)
    (h : ∀ (l0 : List Int), allHas iv41 [] → allL (parLvs s41.params) [l0] → pre 41 [] [l0] → p41 T I M pre (fun ys _ => ys = T.app 41 [] [l0]) l0) : CT Try.prog T.fns (presQ pre) 41 s41 :=
  T.ctg (hlf := hlf) (F := ⟨c41, []⟩) (fuel := 250) vc41 Try.checked.mixed hs ht hg hC hk Try.func41 I M (fun xs ls h1 h2 h3 => ⟨hi xs ls h1 h3, h2⟩) fun xs ls hx hl hp => by
    match xs, ls, hx, hl, hp with
    | [], [l0], hx, hl, hp => rw [q41]; exact h l0 hx hl hp
/-- loop.example/g01242/spec.RatioOf -/
def s40 : Sig := ⟨[.lst [.i64]], [(true, [.i .i64, .i .i64]), (false, [.i .i64])], true⟩
noncomputable def c40 : Cfg := ⟨Try.prog, [(58, s58), (59, s59)], [], [], []⟩
def iv40 : List Iv := []
def t40 : VC :=
 (.call 58 (.l (.var 0) .nil) 1
 (.ite (.not (.eq (.var 0) (.lit 1)))
  (.fin (.e (.lit 0) (.e (.lit 0) (.e (.lit 1) .nil))))
  (.need [(.pre 59 (.l (.var 0) .nil))]
  (.call 59 (.l (.var 0) .nil) 3
  (.fin (.e (.var 1) (.e (.var 2) (.e (.var 3) .nil))))))))
theorem vc40 : vcOfI ⟨c40, []⟩ iv40 (parLvs s40.params) 250 Try.f40 s40 = t40 := by kernel_rfl
set_option linter.unusedVariables false in
def p40 (T : Tab) (I : Nat → Env → Env → Prop) (M : Nat → Env → Env → Nat) (pre : Nat → List Int → List (List Int) → Prop) (post : List Int → List (List Int) → Prop) (l0 : List Int) : Prop :=
 ∀ v0 : Int, [v0] = T.outL 58 1 [] [l0] →
 (((!decide ((v0 : Int) = 1)) = true →
  post [0, 0, 1] []) ∧ ((!decide ((v0 : Int) = 1)) = false →
  ((pre 59 [] [l0]) ∧ ((pre 59 [] [l0]) →
  ∀ v1 v2 v3 : Int, [v1, v2, v3] = T.outL 59 3 [] [l0] →
  post [v1, v2, v3] []))))
theorem q40 (T : Tab) (I : Nat → Env → Env → Prop) (M : Nat → Env → Env → Nat) (pre : Nat → List Int → List (List Int) → Prop) (post : List Int → List (List Int) → Prop) (l0 : List Int) : t40.plain T (presG pre I M) post ⟨[], [l0]⟩ = p40 T I M pre post l0 := by kernel_rfl
theorem k40 (T : Tab) (I : Nat → Env → Env → Prop) (M : Nat → Env → Env → Nat) (pre : Nat → List Int → List (List Int) → Prop) (hs : SubSig T c40.sigs) (ht : TotG pre c40.sigs) (hg : T.sig 40 = some s40) (hC : CtAll Try.prog T.fns (presQ pre) c40.sigs) (hk : CpAll Try.prog c40.cps) (hi : ∀ xs ls, allHas (parIvs s40.params) xs → pre 40 xs ls → allHas iv40 xs)
    (h : ∀ (l0 : List Int), allHas iv40 [] → allL (parLvs s40.params) [l0] → pre 40 [] [l0] → p40 T I M pre (fun ys _ => ys = T.app 40 [] [l0]) l0) : CT Try.prog T.fns (presQ pre) 40 s40 :=
  T.ctg (F := ⟨c40, []⟩) (fuel := 250) vc40 Try.checked.mixed hs ht hg hC hk Try.func40 I M (fun xs ls h1 h2 h3 => ⟨hi xs ls h1 h3, h2⟩) fun xs ls hx hl hp => by
    match xs, ls, hx, hl, hp with
    | [], [l0], hx, hl, hp => rw [q40]; exact h l0 hx hl hp
/-- loop.example/g01242/laws.FnExactRatioOf -/
def s12 : Sig := ⟨[.lst [.i64]], [(false, [.b])], true⟩
noncomputable def c12 : Cfg := ⟨Try.prog, [(40, s40), (41, s41), (42, s42), (16, s16)], [(14, s14, y14)], [], []⟩
def iv12 : List Iv := []
def t12 : VC :=
 (.ite (.lt (.lit 1048576) (.len (.var 0)))
  (.fin (.e (.lit 1) .nil))
  (.need [(.b (.le (.len (.var 0)) (.lit 1099511627776)))]
  (.call 40 (.l (.var 0) .nil) 3
  (.need [(.b (.le (.len (.var 0)) (.lit 1099511627776)))]
  (.call 41 (.l (.var 0) .nil) 3
  (.call 42 (.e (.var 3) (.e (.var 4) (.e (.var 0) (.e (.var 1) .nil)))) 1
  (.ite (.eq (.var 6) (.lit 1))
   (.ite (.not (.eq (.var 5) (.var 2)))
    (.fin (.e (.lit 0) .nil))
    (.need [(.b (.le (.len (.var 0)) (.lit 1099511627776)))]
    (.call 16 (.l (.var 0) (.l (.var 0) .nil)) 1
    (.ite (.not (.eq (.var 7) (.lit 1)))
     (.fin (.e (.lit 0) .nil))
     (.fin (.e (.lit 1) .nil))))))
   (.fin (.e (.lit 0) .nil)))))))))
theorem vc12 : vcOfI ⟨c12, []⟩ iv12 (parLvs s12.params) 250 Try.f12 s12 = t12 := by kernel_rfl
set_option linter.unusedVariables false in
def p12 (T : Tab) (I : Nat → Env → Env → Prop) (M : Nat → Env → Env → Nat) (pre : Nat → List Int → List (List Int) → Prop) (post : List Int → List (List Int) → Prop) (l0 : List Int) : Prop :=
 ((decide ((1048576 : Int) < (List.length l0 : Int)) = true →
  post [1] []) ∧ (decide ((1048576 : Int) < (List.length l0 : Int)) = false →
  ((decide (((List.length l0 : Int) : Int) ≤ 1099511627776) = true) ∧ ((decide (((List.length l0 : Int) : Int) ≤ 1099511627776) = true) →
  ∀ v0 v1 v2 : Int, [v0, v1, v2] = T.outL 40 3 [] [l0] →
  ((decide (((List.length l0 : Int) : Int) ≤ 1099511627776) = true) ∧ ((decide (((List.length l0 : Int) : Int) ≤ 1099511627776) = true) →
  ∀ v3 v4 v5 : Int, [v3, v4, v5] = T.outL 41 3 [] [l0] →
  ∀ v6 : Int, [v6] = T.out 42 1 [v3, v4, v0, v1] →
  ((decide ((v6 : Int) = 1) = true →
   (((!decide ((v5 : Int) = v2)) = true →
    post [0] []) ∧ ((!decide ((v5 : Int) = v2)) = false →
    ((decide (((List.length l0 : Int) : Int) ≤ 1099511627776) = true) ∧ ((decide (((List.length l0 : Int) : Int) ≤ 1099511627776) = true) →
    ∀ v7 : Int, [v7] = T.outL 16 1 [] [l0, l0] →
    (((!decide ((v7 : Int) = 1)) = true →
     post [0] []) ∧ ((!decide ((v7 : Int) = 1)) = false →
     post [1] []))))))) ∧ (decide ((v6 : Int) = 1) = false →
   post [0] []))))))))
theorem q12 (T : Tab) (I : Nat → Env → Env → Prop) (M : Nat → Env → Env → Nat) (pre : Nat → List Int → List (List Int) → Prop) (post : List Int → List (List Int) → Prop) (l0 : List Int) : t12.plain T (presG pre I M) post ⟨[], [l0]⟩ = p12 T I M pre post l0 := by kernel_rfl
theorem k12 (T : Tab) (I : Nat → Env → Env → Prop) (M : Nat → Env → Env → Nat) (pre : Nat → List Int → List (List Int) → Prop) (hs : SubSig T c12.sigs) (ht : TotG pre c12.sigs) (hg : T.sig 12 = some s12) (hC : CtAll Try.prog T.fns (presQ pre) c12.sigs) (hk : CpAll Try.prog c12.cps) (hi : ∀ xs ls, allHas (parIvs s12.params) xs → pre 12 xs ls → allHas iv12 xs)
    (h : ∀ (l0 : List Int), allHas iv12 [] → allL (parLvs s12.params) [l0] → pre 12 [] [l0] → p12 T I M pre (fun ys _ => ys = T.app 12 [] [l0]) l0) : CT Try.prog T.fns (presQ pre) 12 s12 :=
  T.ctg (F := ⟨c12, []⟩) (fuel := 250) vc12 Try.checked.mixed hs ht hg hC hk Try.func12 I M (fun xs ls h1 h2 h3 => ⟨hi xs ls h1 h3, h2⟩) fun xs ls hx hl hp => by
    match xs, ls, hx, hl, hp with
    | [], [l0], hx, hl, hp => rw [q12]; exact h l0 hx hl hp
end Go.Proofs.Ytfpodondpanmaaa.Sx
