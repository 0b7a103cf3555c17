import Derived.Test.YtkjhakdobbfamaaSxX
import Derived.Test.YtkjhakdobbfamaaChecked
import Derived.KernelRfl
namespace Go.Proofs.Ytkjhakdobbfamaa.Sx
open Go Go.RowKit
/-- loop.example/g01242/spec.l00In -/
def s62 : Sig := ⟨[.val false [.i .i64], .val false [.i .i64], .val false [.i .i64]], [(false, [.b])], true⟩
noncomputable def c62 : Cfg := ⟨Try.prog, [], [], [], [], []⟩
def iv62 : List Iv := [⟨(-9223372036854775808), 9223372036854775807⟩, ⟨(-9223372036854775808), 9223372036854775807⟩, ⟨(-9223372036854775808), 9223372036854775807⟩]
def t62 : VC :=
 (.ite (.le (.var 1) (.var 0))
  (.fin (.e (.ite (.le (.var 0) (.var 2)) (.lit 1) (.lit 0)) .nil))
  (.fin (.e (.lit 0) .nil)))
theorem vc62 : vcOfI ⟨c62, []⟩ iv62 (parLvs s62.params) 250 Try.f62 s62 = t62 := by kernel_rfl
set_option linter.unusedVariables false in
def p62 (T : Tab) (I : Nat → Env → Env → Prop) (M : Nat → Env → Env → Nat) (pre : Nat → List Int → List (List Int) → Prop) (post : List Int → List (List Int) → Prop) (v0 v1 v2 : Int) : Prop :=
 ((decide ((v1 : Int) ≤ v0) = true →
  post [(if decide ((v0 : Int) ≤ v2) = true then 1 else 0)] []) ∧ (decide ((v1 : Int) ≤ v0) = false →
  post [0] []))
theorem q62 (T : Tab) (I : Nat → Env → Env → Prop) (M : Nat → Env → Env → Nat) (pre : Nat → List Int → List (List Int) → Prop) (post : List Int → List (List Int) → Prop) (v0 v1 v2 : Int) : t62.plain T (presG pre I M) post ⟨[v0, v1, v2], []⟩ = p62 T I M pre post v0 v1 v2 := by kernel_rfl
theorem k62 (T : Tab) (I : Nat → Env → Env → Prop) (M : Nat → Env → Env → Nat) (pre : Nat → List Int → List (List Int) → Prop) (hs : SubSig T c62.sigs) (ht : TotG pre c62.sigs) (hg : T.sig 62 = some s62) (hC : CtAll Try.prog T.fns (presQ pre) c62.sigs) (hk : CpAll Try.prog c62.cps) (hi : ∀ xs ls, allHas (parIvs s62.params) xs → pre 62 xs ls → allHas iv62 xs)
    (h : ∀ (v0 v1 v2 : Int), allHas iv62 [v0, v1, v2] → allL (parLvs s62.params) [] → pre 62 [v0, v1, v2] [] → p62 T I M pre (fun ys _ => ys = T.app 62 [v0, v1, v2] []) v0 v1 v2) : CT Try.prog T.fns (presQ pre) 62 s62 :=
  T.ctg (F := ⟨c62, []⟩) (fuel := 250) vc62 Try.checked.mixed hs ht hg hC hk Try.func62 I M (fun xs ls h1 h2 h3 => ⟨hi xs ls h1 h3, h2⟩) fun xs ls hx hl hp => by
    match xs, ls, hx, hl, hp with
    | [v0, v1, v2], [], hx, hl, hp => rw [q62]; exact h v0 v1 v2 hx hl hp
/-- loop.example/g01242/spec.l03Size -/
def s178 : Sig := ⟨[.val false [.i .i64]], [(false, [.i .i64])], true⟩
noncomputable def c178 : Cfg := ⟨Try.prog, [], [], [], [], []⟩
def iv178 : List Iv := [⟨(-9223372036854775808), 9223372036854775807⟩]
def t178 : VC :=
 (.ite (.lt (.var 0) (.lit 0))
  (.bind (.wrap .i64 (.sub (.lit 0) (.var 0)))
  (.fin (.e (.var 1) .nil)))
  (.fin (.e (.var 0) .nil)))
theorem vc178 : vcOfI ⟨c178, []⟩ iv178 (parLvs s178.params) 250 Try.f178 s178 = t178 := by kernel_rfl
set_option linter.unusedVariables false in
def p178 (T : Tab) (I : Nat → Env → Env → Prop) (M : Nat → Env → Env → Nat) (pre : Nat → List Int → List (List Int) → Prop) (post : List Int → List (List Int) → Prop) (v0 : Int) : Prop :=
 ((decide ((v0 : Int) < 0) = true →
  ∀ v1 : Int, v1 = (IntKind.wrap .i64 (0 - v0)) →
  post [v1] []) ∧ (decide ((v0 : Int) < 0) = false →
  post [v0] []))
theorem q178 (T : Tab) (I : Nat → Env → Env → Prop) (M : Nat → Env → Env → Nat) (pre : Nat → List Int → List (List Int) → Prop) (post : List Int → List (List Int) → Prop) (v0 : Int) : t178.plain T (presG pre I M) post ⟨[v0], []⟩ = p178 T I M pre post v0 := by kernel_rfl
theorem k178 (T : Tab) (I : Nat → Env → Env → Prop) (M : Nat → Env → Env → Nat) (pre : Nat → List Int → List (List Int) → Prop) (hs : SubSig T c178.sigs) (ht : TotG pre c178.sigs) (hg : T.sig 178 = some s178) (hC : CtAll Try.prog T.fns (presQ pre) c178.sigs) (hk : CpAll Try.prog c178.cps) (hi : ∀ xs ls, allHas (parIvs s178.params) xs → pre 178 xs ls → allHas iv178 xs)
    (h : ∀ (v0 : Int), allHas iv178 [v0] → allL (parLvs s178.params) [] → pre 178 [v0] [] → p178 T I M pre (fun ys _ => ys = T.app 178 [v0] []) v0) : CT Try.prog T.fns (presQ pre) 178 s178 :=
  T.ctg (F := ⟨c178, []⟩) (fuel := 250) vc178 Try.checked.mixed hs ht hg hC hk Try.func178 I M (fun xs ls h1 h2 h3 => ⟨hi xs ls h1 h3, h2⟩) fun xs ls hx hl hp => by
    match xs, ls, hx, hl, hp with
    | [v0], [], hx, hl, hp => rw [q178]; exact h v0 hx hl hp
/-- loop.example/g01242/impl.isWithin -/
def s151 : Sig := ⟨[.val false [.i .i64], .val false [.i .i64]], [(false, [.b])], true⟩
noncomputable def c151 : Cfg := ⟨Try.prog, [], [], [], [], []⟩
def iv151 : List Iv := [⟨(-9223372036854775808), 9223372036854775807⟩, ⟨(-9223372036854775808), 9223372036854775807⟩]
def t151 : VC :=
 (.ite (.le (.wrap .i64 (.sub (.lit 0) (.var 1))) (.var 0))
  (.fin (.e (.ite (.le (.var 0) (.var 1)) (.lit 1) (.lit 0)) .nil))
  (.fin (.e (.lit 0) .nil)))
theorem vc151 : vcOfI ⟨c151, []⟩ iv151 (parLvs s151.params) 250 Try.f151 s151 = t151 := by kernel_rfl
set_option linter.unusedVariables false in
def p151 (T : Tab) (I : Nat → Env → Env → Prop) (M : Nat → Env → Env → Nat) (pre : Nat → List Int → List (List Int) → Prop) (post : List Int → List (List Int) → Prop) (v0 v1 : Int) : Prop :=
 ((decide (((IntKind.wrap .i64 (0 - v1)) : Int) ≤ v0) = true →
  post [(if decide ((v0 : Int) ≤ v1) = true then 1 else 0)] []) ∧ (decide (((IntKind.wrap .i64 (0 - v1)) : Int) ≤ v0) = false →
  post [0] []))
theorem q151 (T : Tab) (I : Nat → Env → Env → Prop) (M : Nat → Env → Env → Nat) (pre : Nat → List Int → List (List Int) → Prop) (post : List Int → List (List Int) → Prop) (v0 v1 : Int) : t151.plain T (presG pre I M) post ⟨[v0, v1], []⟩ = p151 T I M pre post v0 v1 := by kernel_rfl
theorem k151 (T : Tab) (I : Nat → Env → Env → Prop) (M : Nat → Env → Env → Nat) (pre : Nat → List Int → List (List Int) → Prop) (hs : SubSig T c151.sigs) (ht : TotG pre c151.sigs) (hg : T.sig 151 = some s151) (hC : CtAll Try.prog T.fns (presQ pre) c151.sigs) (hk : CpAll Try.prog c151.cps) (hi : ∀ xs ls, allHas (parIvs s151.params) xs → pre 151 xs ls → allHas iv151 xs)
    (h : ∀ (v0 v1 : Int), allHas iv151 [v0, v1] → allL (parLvs s151.params) [] → pre 151 [v0, v1] [] → p151 T I M pre (fun ys _ => ys = T.app 151 [v0, v1] []) v0 v1) : CT Try.prog T.fns (presQ pre) 151 s151 :=
  T.ctg (F := ⟨c151, []⟩) (fuel := 250) vc151 Try.checked.mixed hs ht hg hC hk Try.func151 I M (fun xs ls h1 h2 h3 => ⟨hi xs ls h1 h3, h2⟩) fun xs ls hx hl hp => by
    match xs, ls, hx, hl, hp with
    | [v0, v1], [], hx, hl, hp => rw [q151]; exact h v0 v1 hx hl hp
/-- loop.example/g01242/impl.commonOf -/
def s179 : Sig := ⟨[.slc [.i .i64, .i .i64]], [(false, [.i .i64])], false⟩
noncomputable def c179 : Cfg := ⟨Try.prog, [], [], [], [], []⟩
def iv179 : List Iv := [⟨(-9223372036854775808), 9223372036854775807⟩, ⟨(-9223372036854775808), 9223372036854775807⟩]
def t179 : VC :=
 (.loop 0 [(.lit 0), (.var 0)] [] [⟨(-9223372036854775808), 9223372036854775807⟩, ⟨(-9223372036854775808), 9223372036854775807⟩] []
  (.ite (.not (.eq (.var 3) (.lit 0)))
   (.need [(.b (.not (.eq (.var 3) (.lit 0))))]
   (.bind (.tmod (.var 2) (.var 3))
   (.again 0 2 0 [⟨(-9223372036854775808), 9223372036854775807⟩, ⟨(-9223372036854775808), 9223372036854775807⟩] [(.var 3), (.var 4)] [])))
   (.loop 0 [(.var 2), (.var 1)] [] [⟨(-9223372036854775808), 9223372036854775807⟩, ⟨(-9223372036854775808), 9223372036854775807⟩] []
    (.ite (.not (.eq (.var 5) (.lit 0)))
     (.need [(.b (.not (.eq (.var 5) (.lit 0))))]
     (.bind (.tmod (.var 4) (.var 5))
     (.again 0 4 0 [⟨(-9223372036854775808), 9223372036854775807⟩, ⟨(-9223372036854775808), 9223372036854775807⟩] [(.var 5), (.var 6)] [])))
     (.bind (.ite (.lt (.var 4) (.wrap .i64 (.sub (.lit 0) (.var 4)))) (.wrap .i64 (.sub (.lit 0) (.var 4))) (.var 4))
     (.fin (.e (.var 6) .nil)))))))
theorem vc179 : vcOfI ⟨c179, [(5, ⟨0, [3, 5], [], [12, 13, 14, 15, 16, 17, 10], [⟨(-9223372036854775808), 9223372036854775807⟩, ⟨(-9223372036854775808), 9223372036854775807⟩], [], []⟩)]⟩ iv179 (parLvs s179.params) 250 Try.f179 s179 = t179 := by kernel_rfl
set_option linter.unusedVariables false in
def p179 (T : Tab) (I : Nat → Env → Env → Prop) (M : Nat → Env → Env → Nat) (pre : Nat → List Int → List (List Int) → Prop) (post : List Int → List (List Int) → Prop) (v0 v1 : Int) : Prop :=
 ((allHas [⟨(-9223372036854775808), 9223372036854775807⟩, ⟨(-9223372036854775808), 9223372036854775807⟩] [0, v0] ∧ I 0 ⟨[v0, v1], []⟩ ⟨[0, v0], []⟩) ∧ ∀ v2 v3 : Int, allHas [⟨(-9223372036854775808), 9223372036854775807⟩, ⟨(-9223372036854775808), 9223372036854775807⟩] [v2, v3] → I 0 ⟨[v0, v1], []⟩ ⟨[v2, v3], []⟩ →
  (((!decide ((v3 : Int) = 0)) = true →
   (((!decide ((v3 : Int) = 0)) = true) ∧ (((!decide ((v3 : Int) = 0)) = true) →
   ∀ v4 : Int, v4 = (Int.tmod v2 v3) →
   (allHas [⟨(-9223372036854775808), 9223372036854775807⟩, ⟨(-9223372036854775808), 9223372036854775807⟩] [v3, v4] ∧ I 0 ⟨[v0, v1], []⟩ ⟨[v3, v4], []⟩ ∧ M 0 ⟨[v0, v1], []⟩ ⟨[v3, v4], []⟩ < M 0 ⟨[v0, v1], []⟩ ⟨[v2, v3], []⟩)))) ∧ ((!decide ((v3 : Int) = 0)) = false →
   ((allHas [⟨(-9223372036854775808), 9223372036854775807⟩, ⟨(-9223372036854775808), 9223372036854775807⟩] [v2, v1] ∧ I 0 ⟨[v0, v1, v2, v3], []⟩ ⟨[v2, v1], []⟩) ∧ ∀ v4 v5 : Int, allHas [⟨(-9223372036854775808), 9223372036854775807⟩, ⟨(-9223372036854775808), 9223372036854775807⟩] [v4, v5] → I 0 ⟨[v0, v1, v2, v3], []⟩ ⟨[v4, v5], []⟩ →
    (((!decide ((v5 : Int) = 0)) = true →
     (((!decide ((v5 : Int) = 0)) = true) ∧ (((!decide ((v5 : Int) = 0)) = true) →
     ∀ v6 : Int, v6 = (Int.tmod v4 v5) →
     (allHas [⟨(-9223372036854775808), 9223372036854775807⟩, ⟨(-9223372036854775808), 9223372036854775807⟩] [v5, v6] ∧ I 0 ⟨[v0, v1, v2, v3], []⟩ ⟨[v5, v6], []⟩ ∧ M 0 ⟨[v0, v1, v2, v3], []⟩ ⟨[v5, v6], []⟩ < M 0 ⟨[v0, v1, v2, v3], []⟩ ⟨[v4, v5], []⟩)))) ∧ ((!decide ((v5 : Int) = 0)) = false →
     ∀ v6 : Int, v6 = (if decide ((v4 : Int) < (IntKind.wrap .i64 (0 - v4))) = true then (IntKind.wrap .i64 (0 - v4)) else v4) →
     post [v6] []))))))
theorem q179 (T : Tab) (I : Nat → Env → Env → Prop) (M : Nat → Env → Env → Nat) (pre : Nat → List Int → List (List Int) → Prop) (post : List Int → List (List Int) → Prop) (v0 v1 : Int) : t179.plain T (presG pre I M) post ⟨[v0, v1], []⟩ = p179 T I M pre post v0 v1 := by kernel_rfl
theorem k179 (T : Tab) (I : Nat → Env → Env → Prop) (M : Nat → Env → Env → Nat) (pre : Nat → List Int → List (List Int) → Prop) (hs : SubSig T c179.sigs) (ht : TotG pre c179.sigs) (hg : T.sig 179 = some s179) (hC : CtAll Try.prog T.fns (presQ pre) c179.sigs) (hk : CpAll Try.prog c179.cps) (hi : ∀ xs ls, allHas (parIvs s179.params) xs → pre 179 xs ls → allHas iv179 xs)
    (h : ∀ (v0 v1 : Int), allHas iv179 [v0, v1] → allL (parLvs s179.params) [] → pre 179 [v0, v1] [] → p179 T I M pre (fun ys _ => ys = T.app 179 [v0, v1] []) v0 v1) : CT Try.prog T.fns (presQ pre) 179 s179 :=
  T.ctg (F := ⟨c179, [(5, ⟨0, [3, 5], [], [12, 13, 14, 15, 16, 17, 10], [⟨(-9223372036854775808), 9223372036854775807⟩, ⟨(-9223372036854775808), 9223372036854775807⟩], [], []⟩)]⟩) (fuel := 250) vc179 Try.checked.mixed hs ht hg hC hk Try.func179 I M (fun xs ls h1 h2 h3 => ⟨hi xs ls h1 h3, h2⟩) fun xs ls hx hl hp => by
    match xs, ls, hx, hl, hp with
    | [v0, v1], [], hx, hl, hp => rw [q179]; exact h v0 v1 hx hl hp
/-- loop.example/g01242/spec.l03Common -/
def s129 : Sig := ⟨[.val false [.i .i64], .val false [.i .i64]], [(false, [.i .i64])], false⟩
noncomputable def c129 : Cfg := ⟨Try.prog, [(178, s178)], [], [], [], []⟩
def iv129 : List Iv := [⟨(-9223372036854775808), 9223372036854775807⟩, ⟨(-9223372036854775808), 9223372036854775807⟩]
def t129 : VC :=
 (.call 178 (.e (.var 0) .nil) 1
 (.call 178 (.e (.var 1) .nil) 1
 (.loop 0 [(.var 2), (.var 3)] [] [⟨(-9223372036854775808), 9223372036854775807⟩, ⟨(-9223372036854775808), 9223372036854775807⟩] []
  (.ite (.not (.eq (.var 5) (.lit 0)))
   (.need [(.b (.not (.eq (.var 5) (.lit 0))))]
   (.bind (.tmod (.var 4) (.var 5))
   (.again 0 4 0 [⟨(-9223372036854775808), 9223372036854775807⟩, ⟨(-9223372036854775808), 9223372036854775807⟩] [(.var 5), (.var 6)] [])))
   (.fin (.e (.var 4) .nil))))))
theorem vc129 : vcOfI ⟨c129, [(3, ⟨0, [0, 1], [], [10, 11, 12, 13, 14, 5, 15, 16], [⟨(-9223372036854775808), 9223372036854775807⟩, ⟨(-9223372036854775808), 9223372036854775807⟩], [], []⟩)]⟩ iv129 (parLvs s129.params) 250 Try.f129 s129 = t129 := by kernel_rfl
set_option linter.unusedVariables false in
def p129 (T : Tab) (I : Nat → Env → Env → Prop) (M : Nat → Env → Env → Nat) (pre : Nat → List Int → List (List Int) → Prop) (post : List Int → List (List Int) → Prop) (v0 v1 : Int) : Prop :=
 ∀ v2 : Int, [v2] = T.out 178 1 [v0] →
 ∀ v3 : Int, [v3] = T.out 178 1 [v1] →
 ((allHas [⟨(-9223372036854775808), 9223372036854775807⟩, ⟨(-9223372036854775808), 9223372036854775807⟩] [v2, v3] ∧ I 0 ⟨[v0, v1, v2, v3], []⟩ ⟨[v2, v3], []⟩) ∧ ∀ v4 v5 : Int, allHas [⟨(-9223372036854775808), 9223372036854775807⟩, ⟨(-9223372036854775808), 9223372036854775807⟩] [v4, v5] → I 0 ⟨[v0, v1, v2, v3], []⟩ ⟨[v4, v5], []⟩ →
  (((!decide ((v5 : Int) = 0)) = true →
   (((!decide ((v5 : Int) = 0)) = true) ∧ (((!decide ((v5 : Int) = 0)) = true) →
   ∀ v6 : Int, v6 = (Int.tmod v4 v5) →
   (allHas [⟨(-9223372036854775808), 9223372036854775807⟩, ⟨(-9223372036854775808), 9223372036854775807⟩] [v5, v6] ∧ I 0 ⟨[v0, v1, v2, v3], []⟩ ⟨[v5, v6], []⟩ ∧ M 0 ⟨[v0, v1, v2, v3], []⟩ ⟨[v5, v6], []⟩ < M 0 ⟨[v0, v1, v2, v3], []⟩ ⟨[v4, v5], []⟩)))) ∧ ((!decide ((v5 : Int) = 0)) = false →
   post [v4] [])))
theorem q129 (T : Tab) (I : Nat → Env → Env → Prop) (M : Nat → Env → Env → Nat) (pre : Nat → List Int → List (List Int) → Prop) (post : List Int → List (List Int) → Prop) (v0 v1 : Int) : t129.plain T (presG pre I M) post ⟨[v0, v1], []⟩ = p129 T I M pre post v0 v1 := by kernel_rfl
theorem k129 (T : Tab) (I : Nat → Env → Env → Prop) (M : Nat → Env → Env → Nat) (pre : Nat → List Int → List (List Int) → Prop) (hs : SubSig T c129.sigs) (ht : TotG pre c129.sigs) (hg : T.sig 129 = some s129) (hC : CtAll Try.prog T.fns (presQ pre) c129.sigs) (hk : CpAll Try.prog c129.cps) (hi : ∀ xs ls, allHas (parIvs s129.params) xs → pre 129 xs ls → allHas iv129 xs)
    (h : ∀ (v0 v1 : Int), allHas iv129 [v0, v1] → allL (parLvs s129.params) [] → pre 129 [v0, v1] [] → p129 T I M pre (fun ys _ => ys = T.app 129 [v0, v1] []) v0 v1) : CT Try.prog T.fns (presQ pre) 129 s129 :=
  T.ctg (F := ⟨c129, [(3, ⟨0, [0, 1], [], [10, 11, 12, 13, 14, 5, 15, 16], [⟨(-9223372036854775808), 9223372036854775807⟩, ⟨(-9223372036854775808), 9223372036854775807⟩], [], []⟩)]⟩) (fuel := 250) vc129 Try.checked.mixed hs ht hg hC hk Try.func129 I M (fun xs ls h1 h2 h3 => ⟨hi xs ls h1 h3, h2⟩) fun xs ls hx hl hp => by
    match xs, ls, hx, hl, hp with
    | [v0, v1], [], hx, hl, hp => rw [q129]; exact h v0 v1 hx hl hp
/-- loop.example/g01242/spec.l03Ratio -/
def s63 : Sig := ⟨[.ptr [.i .i64, .i .i64]], [(false, [.b])], true⟩
noncomputable def c63 : Cfg := ⟨Try.prog, [(62, s62), (129, s129)], [], [], [], []⟩
def iv63 : List Iv := [⟨(-9223372036854775808), 9223372036854775807⟩, ⟨(-9223372036854775808), 9223372036854775807⟩]
def t63 : VC :=
 (.ite (.eq (.app 62 0 (.e (.var 1) (.e (.lit 1) (.e (.lit 2147483648) .nil)))) (.lit 1))
  (.ite (.eq (.app 62 0 (.e (.var 0) (.e (.lit (-2147483648)) (.e (.lit 2147483648) .nil)))) (.lit 1))
   (.need [(.pre 129 (.e (.var 0) (.e (.var 1) .nil)))]
   (.call 62 (.e (.var 1) (.e (.lit 1) (.e (.lit 2147483648) .nil))) 1
   (.call 62 (.e (.var 0) (.e (.lit (-2147483648)) (.e (.lit 2147483648) .nil))) 1
   (.call 129 (.e (.var 0) (.e (.var 1) .nil)) 1
   (.fin (.e (.ite (.eq (.var 4) (.lit 1)) (.lit 1) (.lit 0)) .nil))))))
   (.call 62 (.e (.var 1) (.e (.lit 1) (.e (.lit 2147483648) .nil))) 1
   (.call 62 (.e (.var 0) (.e (.lit (-2147483648)) (.e (.lit 2147483648) .nil))) 1
   (.fin (.e (.lit 0) .nil)))))
  (.call 62 (.e (.var 1) (.e (.lit 1) (.e (.lit 2147483648) .nil))) 1
  (.fin (.e (.lit 0) .nil))))
theorem vc63 : vcOfI ⟨c63, []⟩ iv63 (parLvs s63.params) 250 Try.f63 s63 = t63 := by kernel_rfl
set_option linter.unusedVariables false in
def p63 (T : Tab) (I : Nat → Env → Env → Prop) (M : Nat → Env → Env → Nat) (pre : Nat → List Int → List (List Int) → Prop) (post : List Int → List (List Int) → Prop) (v0 v1 : Int) : Prop :=
 ((decide (((List.getD (T.fns 62 [v1, 1, 2147483648] []).1 0 0) : Int) = 1) = true →
  ((decide (((List.getD (T.fns 62 [v0, (-2147483648), 2147483648] []).1 0 0) : Int) = 1) = true →
   ((pre 129 [v0, v1] []) ∧ ((pre 129 [v0, v1] []) →
   ∀ v2 : Int, [v2] = T.out 62 1 [v1, 1, 2147483648] →
   ∀ v3 : Int, [v3] = T.out 62 1 [v0, (-2147483648), 2147483648] →
   ∀ v4 : Int, [v4] = T.out 129 1 [v0, v1] →
   post [(if decide ((v4 : Int) = 1) = true then 1 else 0)] []))) ∧ (decide (((List.getD (T.fns 62 [v0, (-2147483648), 2147483648] []).1 0 0) : Int) = 1) = false →
   ∀ v2 : Int, [v2] = T.out 62 1 [v1, 1, 2147483648] →
   ∀ v3 : Int, [v3] = T.out 62 1 [v0, (-2147483648), 2147483648] →
   post [0] []))) ∧ (decide (((List.getD (T.fns 62 [v1, 1, 2147483648] []).1 0 0) : Int) = 1) = false →
  ∀ v2 : Int, [v2] = T.out 62 1 [v1, 1, 2147483648] →
  post [0] []))
theorem q63 (T : Tab) (I : Nat → Env → Env → Prop) (M : Nat → Env → Env → Nat) (pre : Nat → List Int → List (List Int) → Prop) (post : List Int → List (List Int) → Prop) (v0 v1 : Int) : t63.plain T (presG pre I M) post ⟨[v0, v1], []⟩ = p63 T I M pre post v0 v1 := by kernel_rfl
theorem k63 (T : Tab) (I : Nat → Env → Env → Prop) (M : Nat → Env → Env → Nat) (pre : Nat → List Int → List (List Int) → Prop) (hs : SubSig T c63.sigs) (ht : TotG pre c63.sigs) (hg : T.sig 63 = some s63) (hC : CtAll Try.prog T.fns (presQ pre) c63.sigs) (hk : CpAll Try.prog c63.cps) (hi : ∀ xs ls, allHas (parIvs s63.params) xs → pre 63 xs ls → allHas iv63 xs)
    (h : ∀ (v0 v1 : Int), allHas iv63 [v0, v1] → allL (parLvs s63.params) [] → pre 63 [v0, v1] [] → p63 T I M pre (fun ys _ => ys = T.app 63 [v0, v1] []) v0 v1) : CT Try.prog T.fns (presQ pre) 63 s63 :=
  T.ctg (F := ⟨c63, []⟩) (fuel := 250) vc63 Try.checked.mixed hs ht hg hC hk Try.func63 I M (fun xs ls h1 h2 h3 => ⟨hi xs ls h1 h3, h2⟩) fun xs ls hx hl hp => by
    match xs, ls, hx, hl, hp with
    | [v0, v1], [], hx, hl, hp => rw [q63]; exact h v0 v1 hx hl hp
/-- loop.example/g01242/impl.MakeRatio -/
def s130 : Sig := ⟨[.val false [.i .i64], .val false [.i .i64]], [(true, [.i .i64, .i .i64]), (false, [.i .i64])], true⟩
noncomputable def c130 : Cfg := ⟨Try.prog, [(151, s151), (179, s179)], [], [], [], []⟩
def iv130 : List Iv := [⟨(-9223372036854775808), 9223372036854775807⟩, ⟨(-9223372036854775808), 9223372036854775807⟩]
def t130 : VC :=
 (.call 151 (.e (.var 0) (.e (.lit 1000000000000000000) .nil)) 1
 (.ite (.eq (.var 2) (.lit 1))
  (.call 151 (.e (.var 1) (.e (.lit 1000000000000000000) .nil)) 1
  (.ite (.not (.eq (.var 3) (.lit 1)))
   (.fin (.e (.lit 0) (.e (.lit 0) (.e (.lit 3) .nil))))
   (.ite (.eq (.var 1) (.lit 0))
    (.fin (.e (.lit 0) (.e (.lit 0) (.e (.lit 4) .nil))))
    (.need [(.pre 179 (.e (.var 0) (.e (.var 1) .nil)))]
    (.call 179 (.e (.var 0) (.e (.var 1) .nil)) 1
    (.ite (.lt (.var 1) (.lit 0))
     (.bind (.wrap .i64 (.sub (.lit 0) (.var 4)))
     (.need [(.b (.not (.eq (.var 5) (.lit 0)))), (.b (.not (.eq (.var 5) (.lit 0))))]
     (.bind (.wrap .i64 (.tdiv (.var 0) (.var 5)))
     (.bind (.wrap .i64 (.tdiv (.var 1) (.var 5)))
     (.call 151 (.e (.var 6) (.e (.lit 2147483648) .nil)) 1
     (.ite (.eq (.var 8) (.lit 1))
      (.ite (.lt (.lit 2147483648) (.var 7))
       (.fin (.e (.lit 0) (.e (.lit 0) (.e (.lit 3) .nil))))
       (.fin (.e (.var 6) (.e (.var 7) (.e (.lit 0) .nil)))))
      (.fin (.e (.lit 0) (.e (.lit 0) (.e (.lit 3) .nil))))))))))
     (.need [(.b (.not (.eq (.var 4) (.lit 0)))), (.b (.not (.eq (.var 4) (.lit 0))))]
     (.bind (.wrap .i64 (.tdiv (.var 0) (.var 4)))
     (.bind (.wrap .i64 (.div (.var 1) (.var 4)))
     (.call 151 (.e (.var 5) (.e (.lit 2147483648) .nil)) 1
     (.ite (.eq (.var 7) (.lit 1))
      (.ite (.lt (.lit 2147483648) (.var 6))
       (.fin (.e (.lit 0) (.e (.lit 0) (.e (.lit 3) .nil))))
       (.fin (.e (.var 5) (.e (.var 6) (.e (.lit 0) .nil)))))
      (.fin (.e (.lit 0) (.e (.lit 0) (.e (.lit 3) .nil)))))))))))))))
  (.fin (.e (.lit 0) (.e (.lit 0) (.e (.lit 3) .nil))))))
theorem vc130 : vcOfI ⟨c130, []⟩ iv130 (parLvs s130.params) 250 Try.f130 s130 = t130 := by kernel_rfl
set_option linter.unusedVariables false in
def p130 (T : Tab) (I : Nat → Env → Env → Prop) (M : Nat → Env → Env → Nat) (pre : Nat → List Int → List (List Int) → Prop) (post : List Int → List (List Int) → Prop) (v0 v1 : Int) : Prop :=
 ∀ v2 : Int, [v2] = T.out 151 1 [v0, 1000000000000000000] →
 ((decide ((v2 : Int) = 1) = true →
  ∀ v3 : Int, [v3] = T.out 151 1 [v1, 1000000000000000000] →
  (((!decide ((v3 : Int) = 1)) = true →
   post [0, 0, 3] []) ∧ ((!decide ((v3 : Int) = 1)) = false →
   ((decide ((v1 : Int) = 0) = true →
    post [0, 0, 4] []) ∧ (decide ((v1 : Int) = 0) = false →
    ((pre 179 [v0, v1] []) ∧ ((pre 179 [v0, v1] []) →
    ∀ v4 : Int, [v4] = T.out 179 1 [v0, v1] →
    ((decide ((v1 : Int) < 0) = true →
     ∀ v5 : Int, v5 = (IntKind.wrap .i64 (0 - v4)) →
     (((!decide ((v5 : Int) = 0)) = true ∧ (!decide ((v5 : Int) = 0)) = true) ∧ (((!decide ((v5 : Int) = 0)) = true ∧ (!decide ((v5 : Int) = 0)) = true) →
     ∀ v6 : Int, v6 = (IntKind.wrap .i64 (Int.tdiv v0 v5)) →
     ∀ v7 : Int, v7 = (IntKind.wrap .i64 (Int.tdiv v1 v5)) →
     ∀ v8 : Int, [v8] = T.out 151 1 [v6, 2147483648] →
     ((decide ((v8 : Int) = 1) = true →
      ((decide ((2147483648 : Int) < v7) = true →
       post [0, 0, 3] []) ∧ (decide ((2147483648 : Int) < v7) = false →
       post [v6, v7, 0] []))) ∧ (decide ((v8 : Int) = 1) = false →
      post [0, 0, 3] []))))) ∧ (decide ((v1 : Int) < 0) = false →
     (((!decide ((v4 : Int) = 0)) = true ∧ (!decide ((v4 : Int) = 0)) = true) ∧ (((!decide ((v4 : Int) = 0)) = true ∧ (!decide ((v4 : Int) = 0)) = true) →
     ∀ v5 : Int, v5 = (IntKind.wrap .i64 (Int.tdiv v0 v4)) →
     ∀ v6 : Int, v6 = (IntKind.wrap .i64 (v1 / v4)) →
     ∀ v7 : Int, [v7] = T.out 151 1 [v5, 2147483648] →
     ((decide ((v7 : Int) = 1) = true →
      ((decide ((2147483648 : Int) < v6) = true →
       post [0, 0, 3] []) ∧ (decide ((2147483648 : Int) < v6) = false →
       post [v5, v6, 0] []))) ∧ (decide ((v7 : Int) = 1) = false →
      post [0, 0, 3] []))))))))))))) ∧ (decide ((v2 : Int) = 1) = false →
  post [0, 0, 3] []))
theorem q130 (T : Tab) (I : Nat → Env → Env → Prop) (M : Nat → Env → Env → Nat) (pre : Nat → List Int → List (List Int) → Prop) (post : List Int → List (List Int) → Prop) (v0 v1 : Int) : t130.plain T (presG pre I M) post ⟨[v0, v1], []⟩ = p130 T I M pre post v0 v1 := by kernel_rfl
theorem k130 (T : Tab) (I : Nat → Env → Env → Prop) (M : Nat → Env → Env → Nat) (pre : Nat → List Int → List (List Int) → Prop) (hs : SubSig T c130.sigs) (ht : TotG pre c130.sigs) (hg : T.sig 130 = some s130) (hC : CtAll Try.prog T.fns (presQ pre) c130.sigs) (hk : CpAll Try.prog c130.cps) (hi : ∀ xs ls, allHas (parIvs s130.params) xs → pre 130 xs ls → allHas iv130 xs)
    (h : ∀ (v0 v1 : Int), allHas iv130 [v0, v1] → allL (parLvs s130.params) [] → pre 130 [v0, v1] [] → p130 T I M pre (fun ys _ => ys = T.app 130 [v0, v1] []) v0 v1) : CT Try.prog T.fns (presQ pre) 130 s130 :=
  T.ctg (F := ⟨c130, []⟩) (fuel := 250) vc130 Try.checked.mixed hs ht hg hC hk Try.func130 I M (fun xs ls h1 h2 h3 => ⟨hi xs ls h1 h3, h2⟩) fun xs ls hx hl hp => by
    match xs, ls, hx, hl, hp with
    | [v0, v1], [], hx, hl, hp => rw [q130]; exact h v0 v1 hx hl hp
/-- loop.example/g01242/impl.ValidRatio -/
def s65 : Sig := ⟨[.val true [.i .i64, .i .i64]], [(false, [.b])], true⟩
noncomputable def c65 : Cfg := ⟨Try.prog, [(130, s130)], [], [], [], []⟩
def iv65 : List Iv := [⟨(-9223372036854775808), 9223372036854775807⟩, ⟨(-9223372036854775808), 9223372036854775807⟩]
def t65 : VC :=
 (.call 130 (.e (.var 0) (.e (.var 1) .nil)) 3
 (.ite (.eq (.var 4) (.lit 0))
  (.bind (.ite (.and (.eq (.var 2) (.var 0)) (.eq (.var 3) (.var 1))) (.lit 1) (.lit 0))
  (.fin (.e (.var 5) .nil)))
  (.fin (.e (.lit 0) .nil))))
theorem vc65 : vcOfI ⟨c65, []⟩ iv65 (parLvs s65.params) 250 Try.f65 s65 = t65 := by kernel_rfl
set_option linter.unusedVariables false in
def p65 (T : Tab) (I : Nat → Env → Env → Prop) (M : Nat → Env → Env → Nat) (pre : Nat → List Int → List (List Int) → Prop) (post : List Int → List (List Int) → Prop) (v0 v1 : Int) : Prop :=
 ∀ v2 v3 v4 : Int, [v2, v3, v4] = T.out 130 3 [v0, v1] →
 ((decide ((v4 : Int) = 0) = true →
  ∀ v5 : Int, v5 = (if (decide ((v2 : Int) = v0) && decide ((v3 : Int) = v1)) = true then 1 else 0) →
  post [v5] []) ∧ (decide ((v4 : Int) = 0) = false →
  post [0] []))
theorem q65 (T : Tab) (I : Nat → Env → Env → Prop) (M : Nat → Env → Env → Nat) (pre : Nat → List Int → List (List Int) → Prop) (post : List Int → List (List Int) → Prop) (v0 v1 : Int) : t65.plain T (presG pre I M) post ⟨[v0, v1], []⟩ = p65 T I M pre post v0 v1 := by kernel_rfl
theorem k65 (T : Tab) (I : Nat → Env → Env → Prop) (M : Nat → Env → Env → Nat) (pre : Nat → List Int → List (List Int) → Prop) (hs : SubSig T c65.sigs) (ht : TotG pre c65.sigs) (hg : T.sig 65 = some s65) (hC : CtAll Try.prog T.fns (presQ pre) c65.sigs) (hk : CpAll Try.prog c65.cps) (hi : ∀ xs ls, allHas (parIvs s65.params) xs → pre 65 xs ls → allHas iv65 xs)
    (h : ∀ (v0 v1 : Int), allHas iv65 [v0, v1] → allL (parLvs s65.params) [] → pre 65 [v0, v1] [] → p65 T I M pre (fun ys _ => ys = T.app 65 [v0, v1] []) v0 v1) : CT Try.prog T.fns (presQ pre) 65 s65 :=
  T.ctg (F := ⟨c65, []⟩) (fuel := 250) vc65 Try.checked.mixed hs ht hg hC hk Try.func65 I M (fun xs ls h1 h2 h3 => ⟨hi xs ls h1 h3, h2⟩) fun xs ls hx hl hp => by
    match xs, ls, hx, hl, hp with
    | [v0, v1], [], hx, hl, hp => rw [q65]; exact h v0 v1 hx hl hp
/-- loop.example/g01242/laws.toRatio -/
def s19 : Sig := ⟨[.val true [.i .i64, .i .i64]], [(true, [.i .i64, .i .i64])], true⟩
noncomputable def c19 : Cfg := ⟨Try.prog, [], [], [], [], []⟩
def iv19 : List Iv := [⟨(-9223372036854775808), 9223372036854775807⟩, ⟨(-9223372036854775808), 9223372036854775807⟩]
def t19 : VC :=
 (.fin (.e (.var 0) (.e (.var 1) .nil)))
theorem vc19 : vcOfI ⟨c19, []⟩ iv19 (parLvs s19.params) 250 Try.f19 s19 = t19 := by kernel_rfl
set_option linter.unusedVariables false in
def p19 (T : Tab) (I : Nat → Env → Env → Prop) (M : Nat → Env → Env → Nat) (pre : Nat → List Int → List (List Int) → Prop) (post : List Int → List (List Int) → Prop) (v0 v1 : Int) : Prop :=
 post [v0, v1] []
theorem q19 (T : Tab) (I : Nat → Env → Env → Prop) (M : Nat → Env → Env → Nat) (pre : Nat → List Int → List (List Int) → Prop) (post : List Int → List (List Int) → Prop) (v0 v1 : Int) : t19.plain T (presG pre I M) post ⟨[v0, v1], []⟩ = p19 T I M pre post v0 v1 := by kernel_rfl
theorem k19 (T : Tab) (I : Nat → Env → Env → Prop) (M : Nat → Env → Env → Nat) (pre : Nat → List Int → List (List Int) → Prop) (hs : SubSig T c19.sigs) (ht : TotG pre c19.sigs) (hg : T.sig 19 = some s19) (hC : CtAll Try.prog T.fns (presQ pre) c19.sigs) (hk : CpAll Try.prog c19.cps) (hi : ∀ xs ls, allHas (parIvs s19.params) xs → pre 19 xs ls → allHas iv19 xs)
    (h : ∀ (v0 v1 : Int), allHas iv19 [v0, v1] → allL (parLvs s19.params) [] → pre 19 [v0, v1] [] → p19 T I M pre (fun ys _ => ys = T.app 19 [v0, v1] []) v0 v1) : CT Try.prog T.fns (presQ pre) 19 s19 :=
  T.ctg (F := ⟨c19, []⟩) (fuel := 250) vc19 Try.checked.mixed hs ht hg hC hk Try.func19 I M (fun xs ls h1 h2 h3 => ⟨hi xs ls h1 h3, h2⟩) fun xs ls hx hl hp => by
    match xs, ls, hx, hl, hp with
    | [v0, v1], [], hx, hl, hp => rw [q19]; exact h v0 v1 hx hl hp
/-- loop.example/g01242/impl.wholeFork -/
def s66 : Sig := ⟨[], [(true, [.i .i64, .i .i64, .i .i64, .i .i64])], true⟩
noncomputable def c66 : Cfg := ⟨Try.prog, [], [], [], [], []⟩
def iv66 : List Iv := []
def t66 : VC :=
 (.fin (.e (.lit 0) (.e (.lit 1) (.e (.lit 1) (.e (.lit 0) .nil)))))
theorem vc66 : vcOfI ⟨c66, []⟩ iv66 (parLvs s66.params) 250 Try.f66 s66 = t66 := by kernel_rfl
set_option linter.unusedVariables false in
def p66 (T : Tab) (I : Nat → Env → Env → Prop) (M : Nat → Env → Env → Nat) (pre : Nat → List Int → List (List Int) → Prop) (post : List Int → List (List Int) → Prop) : Prop :=
 post [0, 1, 1, 0] []
theorem q66 (T : Tab) (I : Nat → Env → Env → Prop) (M : Nat → Env → Env → Nat) (pre : Nat → List Int → List (List Int) → Prop) (post : List Int → List (List Int) → Prop) : t66.plain T (presG pre I M) post ⟨[], []⟩ = p66 T I M pre post  := by kernel_rfl
theorem k66 (T : Tab) (I : Nat → Env → Env → Prop) (M : Nat → Env → Env → Nat) (pre : Nat → List Int → List (List Int) → Prop) (hs : SubSig T c66.sigs) (ht : TotG pre c66.sigs) (hg : T.sig 66 = some s66) (hC : CtAll Try.prog T.fns (presQ pre) c66.sigs) (hk : CpAll Try.prog c66.cps) (hi : ∀ xs ls, allHas (parIvs s66.params) xs → pre 66 xs ls → allHas iv66 xs)
    (h : ∀ (_ : Unit), allHas iv66 [] → allL (parLvs s66.params) [] → pre 66 [] [] → p66 T I M pre (fun ys _ => ys = T.app 66 [] []) ) : CT Try.prog T.fns (presQ pre) 66 s66 :=
  T.ctg (F := ⟨c66, []⟩) (fuel := 250) vc66 Try.checked.mixed hs ht hg hC hk Try.func66 I M (fun xs ls h1 h2 h3 => ⟨hi xs ls h1 h3, h2⟩) fun xs ls hx hl hp => by
    match xs, ls, hx, hl, hp with
    | [], [], hx, hl, hp => rw [q66]; exact h () hx hl hp
/-- (loop.example/g01242/impl.Ratio).between -/
def s132 : Sig := ⟨[.val true [.i .i64, .i .i64], .val true [.i .i64, .i .i64]], [(true, [.i .i64, .i .i64])], true⟩
noncomputable def c132 : Cfg := ⟨Try.prog, [], [], [], [], []⟩
def iv132 : List Iv := [⟨(-9223372036854775808), 9223372036854775807⟩, ⟨(-9223372036854775808), 9223372036854775807⟩, ⟨(-9223372036854775808), 9223372036854775807⟩, ⟨(-9223372036854775808), 9223372036854775807⟩]
def t132 : VC :=
 (.bind (.wrap .i64 (.add (.var 0) (.var 2)))
 (.bind (.wrap .i64 (.add (.var 1) (.var 3)))
 (.fin (.e (.var 4) (.e (.var 5) .nil)))))
theorem vc132 : vcOfI ⟨c132, []⟩ iv132 (parLvs s132.params) 250 Try.f132 s132 = t132 := by kernel_rfl
set_option linter.unusedVariables false in
def p132 (T : Tab) (I : Nat → Env → Env → Prop) (M : Nat → Env → Env → Nat) (pre : Nat → List Int → List (List Int) → Prop) (post : List Int → List (List Int) → Prop) (v0 v1 v2 v3 : Int) : Prop :=
 ∀ v4 : Int, v4 = (IntKind.wrap .i64 (v0 + v2)) →
 ∀ v5 : Int, v5 = (IntKind.wrap .i64 (v1 + v3)) →
 post [v4, v5] []
theorem q132 (T : Tab) (I : Nat → Env → Env → Prop) (M : Nat → Env → Env → Nat) (pre : Nat → List Int → List (List Int) → Prop) (post : List Int → List (List Int) → Prop) (v0 v1 v2 v3 : Int) : t132.plain T (presG pre I M) post ⟨[v0, v1, v2, v3], []⟩ = p132 T I M pre post v0 v1 v2 v3 := by kernel_rfl
theorem k132 (T : Tab) (I : Nat → Env → Env → Prop) (M : Nat → Env → Env → Nat) (pre : Nat → List Int → List (List Int) → Prop) (hs : SubSig T c132.sigs) (ht : TotG pre c132.sigs) (hg : T.sig 132 = some s132) (hC : CtAll Try.prog T.fns (presQ pre) c132.sigs) (hk : CpAll Try.prog c132.cps) (hi : ∀ xs ls, allHas (parIvs s132.params) xs → pre 132 xs ls → allHas iv132 xs)
    (h : ∀ (v0 v1 v2 v3 : Int), allHas iv132 [v0, v1, v2, v3] → allL (parLvs s132.params) [] → pre 132 [v0, v1, v2, v3] [] → p132 T I M pre (fun ys _ => ys = T.app 132 [v0, v1, v2, v3] []) v0 v1 v2 v3) : CT Try.prog T.fns (presQ pre) 132 s132 :=
  T.ctg (F := ⟨c132, []⟩) (fuel := 250) vc132 Try.checked.mixed hs ht hg hC hk Try.func132 I M (fun xs ls h1 h2 h3 => ⟨hi xs ls h1 h3, h2⟩) fun xs ls hx hl hp => by
    match xs, ls, hx, hl, hp with
    | [v0, v1, v2, v3], [], hx, hl, hp => rw [q132]; exact h v0 v1 v2 v3 hx hl hp
/-- (loop.example/g01242/impl.fork).middle -/
def s68 : Sig := ⟨[.val true [.i .i64, .i .i64, .i .i64, .i .i64]], [(true, [.i .i64, .i .i64])], true⟩
noncomputable def c68 : Cfg := ⟨Try.prog, [(132, s132)], [], [], [], []⟩
def iv68 : List Iv := [⟨(-9223372036854775808), 9223372036854775807⟩, ⟨(-9223372036854775808), 9223372036854775807⟩, ⟨(-9223372036854775808), 9223372036854775807⟩, ⟨(-9223372036854775808), 9223372036854775807⟩]
def t68 : VC :=
 (.call 132 (.e (.var 0) (.e (.var 1) (.e (.var 2) (.e (.var 3) .nil)))) 2
 (.fin (.e (.var 4) (.e (.var 5) .nil))))
theorem vc68 : vcOfI ⟨c68, []⟩ iv68 (parLvs s68.params) 250 Try.f68 s68 = t68 := by kernel_rfl
set_option linter.unusedVariables false in
def p68 (T : Tab) (I : Nat → Env → Env → Prop) (M : Nat → Env → Env → Nat) (pre : Nat → List Int → List (List Int) → Prop) (post : List Int → List (List Int) → Prop) (v0 v1 v2 v3 : Int) : Prop :=
 ∀ v4 v5 : Int, [v4, v5] = T.out 132 2 [v0, v1, v2, v3] →
 post [v4, v5] []
theorem q68 (T : Tab) (I : Nat → Env → Env → Prop) (M : Nat → Env → Env → Nat) (pre : Nat → List Int → List (List Int) → Prop) (post : List Int → List (List Int) → Prop) (v0 v1 v2 v3 : Int) : t68.plain T (presG pre I M) post ⟨[v0, v1, v2, v3], []⟩ = p68 T I M pre post v0 v1 v2 v3 := by kernel_rfl
theorem k68 (T : Tab) (I : Nat → Env → Env → Prop) (M : Nat → Env → Env → Nat) (pre : Nat → List Int → List (List Int) → Prop) (hs : SubSig T c68.sigs) (ht : TotG pre c68.sigs) (hg : T.sig 68 = some s68) (hC : CtAll Try.prog T.fns (presQ pre) c68.sigs) (hk : CpAll Try.prog c68.cps) (hi : ∀ xs ls, allHas (parIvs s68.params) xs → pre 68 xs ls → allHas iv68 xs)
    (h : ∀ (v0 v1 v2 v3 : Int), allHas iv68 [v0, v1, v2, v3] → allL (parLvs s68.params) [] → pre 68 [v0, v1, v2, v3] [] → p68 T I M pre (fun ys _ => ys = T.app 68 [v0, v1, v2, v3] []) v0 v1 v2 v3) : CT Try.prog T.fns (presQ pre) 68 s68 :=
  T.ctg (F := ⟨c68, []⟩) (fuel := 250) vc68 Try.checked.mixed hs ht hg hC hk Try.func68 I M (fun xs ls h1 h2 h3 => ⟨hi xs ls h1 h3, h2⟩) fun xs ls hx hl hp => by
    match xs, ls, hx, hl, hp with
    | [v0, v1, v2, v3], [], hx, hl, hp => rw [q68]; exact h v0 v1 v2 v3 hx hl hp
/-- (loop.example/g01242/impl.fork).behind -/
def s69 : Sig := ⟨[.val true [.i .i64, .i .i64, .i .i64, .i .i64], .val false [.i .u8]], [(true, [.i .i64, .i .i64, .i .i64, .i .i64])], true⟩
noncomputable def c69 : Cfg := ⟨Try.prog, [(68, s68)], [], [], [], []⟩
def iv69 : List Iv := [⟨(-9223372036854775808), 9223372036854775807⟩, ⟨(-9223372036854775808), 9223372036854775807⟩, ⟨(-9223372036854775808), 9223372036854775807⟩, ⟨(-9223372036854775808), 9223372036854775807⟩, ⟨0, 255⟩]
def t69 : VC :=
 (.ite (.eq (.var 4) (.lit 76))
  (.call 68 (.e (.var 0) (.e (.var 1) (.e (.var 2) (.e (.var 3) .nil)))) 2
  (.fin (.e (.var 0) (.e (.var 1) (.e (.var 5) (.e (.var 6) .nil))))))
  (.call 68 (.e (.var 0) (.e (.var 1) (.e (.var 2) (.e (.var 3) .nil)))) 2
  (.fin (.e (.var 5) (.e (.var 6) (.e (.var 2) (.e (.var 3) .nil)))))))
theorem vc69 : vcOfI ⟨c69, []⟩ iv69 (parLvs s69.params) 250 Try.f69 s69 = t69 := by kernel_rfl
set_option linter.unusedVariables false in
def p69 (T : Tab) (I : Nat → Env → Env → Prop) (M : Nat → Env → Env → Nat) (pre : Nat → List Int → List (List Int) → Prop) (post : List Int → List (List Int) → Prop) (v0 v1 v2 v3 v4 : Int) : Prop :=
 ((decide ((v4 : Int) = 76) = true →
  ∀ v5 v6 : Int, [v5, v6] = T.out 68 2 [v0, v1, v2, v3] →
  post [v0, v1, v5, v6] []) ∧ (decide ((v4 : Int) = 76) = false →
  ∀ v5 v6 : Int, [v5, v6] = T.out 68 2 [v0, v1, v2, v3] →
  post [v5, v6, v2, v3] []))
theorem q69 (T : Tab) (I : Nat → Env → Env → Prop) (M : Nat → Env → Env → Nat) (pre : Nat → List Int → List (List Int) → Prop) (post : List Int → List (List Int) → Prop) (v0 v1 v2 v3 v4 : Int) : t69.plain T (presG pre I M) post ⟨[v0, v1, v2, v3, v4], []⟩ = p69 T I M pre post v0 v1 v2 v3 v4 := by kernel_rfl
theorem k69 (T : Tab) (I : Nat → Env → Env → Prop) (M : Nat → Env → Env → Nat) (pre : Nat → List Int → List (List Int) → Prop) (hs : SubSig T c69.sigs) (ht : TotG pre c69.sigs) (hg : T.sig 69 = some s69) (hC : CtAll Try.prog T.fns (presQ pre) c69.sigs) (hk : CpAll Try.prog c69.cps) (hi : ∀ xs ls, allHas (parIvs s69.params) xs → pre 69 xs ls → allHas iv69 xs)
    (h : ∀ (v0 v1 v2 v3 v4 : Int), allHas iv69 [v0, v1, v2, v3, v4] → allL (parLvs s69.params) [] → pre 69 [v0, v1, v2, v3, v4] [] → p69 T I M pre (fun ys _ => ys = T.app 69 [v0, v1, v2, v3, v4] []) v0 v1 v2 v3 v4) : CT Try.prog T.fns (presQ pre) 69 s69 :=
  T.ctg (F := ⟨c69, []⟩) (fuel := 250) vc69 Try.checked.mixed hs ht hg hC hk Try.func69 I M (fun xs ls h1 h2 h3 => ⟨hi xs ls h1 h3, h2⟩) fun xs ls hx hl hp => by
    match xs, ls, hx, hl, hp with
    | [v0, v1, v2, v3, v4], [], hx, hl, hp => rw [q69]; exact h v0 v1 v2 v3 v4 hx hl hp
/-- cmp.isNaN[int64] -/
def s180 : Sig := ⟨[.val false [.i .i64]], [(false, [.b])], true⟩
noncomputable def c180 : Cfg := ⟨Try.prog, [], [], [], [], []⟩
def iv180 : List Iv := [⟨(-9223372036854775808), 9223372036854775807⟩]
def t180 : VC :=
 (.fin (.e (.ite (.not (.eq (.var 0) (.var 0))) (.lit 1) (.lit 0)) .nil))
theorem vc180 : vcOfI ⟨c180, []⟩ iv180 (parLvs s180.params) 250 Try.f180 s180 = t180 := by kernel_rfl
set_option linter.unusedVariables false in
def p180 (T : Tab) (I : Nat → Env → Env → Prop) (M : Nat → Env → Env → Nat) (pre : Nat → List Int → List (List Int) → Prop) (post : List Int → List (List Int) → Prop) (v0 : Int) : Prop :=
 post [(if (!decide ((v0 : Int) = v0)) = true then 1 else 0)] []
theorem q180 (T : Tab) (I : Nat → Env → Env → Prop) (M : Nat → Env → Env → Nat) (pre : Nat → List Int → List (List Int) → Prop) (post : List Int → List (List Int) → Prop) (v0 : Int) : t180.plain T (presG pre I M) post ⟨[v0], []⟩ = p180 T I M pre post v0 := by kernel_rfl
theorem k180 (T : Tab) (I : Nat → Env → Env → Prop) (M : Nat → Env → Env → Nat) (pre : Nat → List Int → List (List Int) → Prop) (hs : SubSig T c180.sigs) (ht : TotG pre c180.sigs) (hg : T.sig 180 = some s180) (hC : CtAll Try.prog T.fns (presQ pre) c180.sigs) (hk : CpAll Try.prog c180.cps) (hi : ∀ xs ls, allHas (parIvs s180.params) xs → pre 180 xs ls → allHas iv180 xs)
    (h : ∀ (v0 : Int), allHas iv180 [v0] → allL (parLvs s180.params) [] → pre 180 [v0] [] → p180 T I M pre (fun ys _ => ys = T.app 180 [v0] []) v0) : CT Try.prog T.fns (presQ pre) 180 s180 :=
  T.ctg (F := ⟨c180, []⟩) (fuel := 250) vc180 Try.checked.mixed hs ht hg hC hk Try.func180 I M (fun xs ls h1 h2 h3 => ⟨hi xs ls h1 h3, h2⟩) fun xs ls hx hl hp => by
    match xs, ls, hx, hl, hp with
    | [v0], [], hx, hl, hp => rw [q180]; exact h v0 hx hl hp
/-- cmp.Compare[int64] -/
def s131 : Sig := ⟨[.val false [.i .i64], .val false [.i .i64]], [(false, [.n .i64 (-1) 1])], true⟩
noncomputable def c131 : Cfg := ⟨Try.prog, [(180, s180)], [], [], [], []⟩
def iv131 : List Iv := [⟨(-9223372036854775808), 9223372036854775807⟩, ⟨(-9223372036854775808), 9223372036854775807⟩]
def t131 : VC :=
 (.call 180 (.e (.var 0) .nil) 1
 (.call 180 (.e (.var 1) .nil) 1
 (.ite (.eq (.var 2) (.lit 1))
  (.ite (.eq (.var 3) (.lit 1))
   (.fin (.e (.lit 0) .nil))
   (.fin (.e (.lit (-1)) .nil)))
  (.ite (.eq (.var 3) (.lit 1))
   (.fin (.e (.lit 1) .nil))
   (.ite (.lt (.var 0) (.var 1))
    (.fin (.e (.lit (-1)) .nil))
    (.ite (.lt (.var 1) (.var 0))
     (.fin (.e (.lit 1) .nil))
     (.fin (.e (.lit 0) .nil))))))))
theorem vc131 : vcOfI ⟨c131, []⟩ iv131 (parLvs s131.params) 250 Try.f131 s131 = t131 := by kernel_rfl
set_option linter.unusedVariables false in
def p131 (T : Tab) (I : Nat → Env → Env → Prop) (M : Nat → Env → Env → Nat) (pre : Nat → List Int → List (List Int) → Prop) (post : List Int → List (List Int) → Prop) (v0 v1 : Int) : Prop :=
 ∀ v2 : Int, [v2] = T.out 180 1 [v0] →
 ∀ v3 : Int, [v3] = T.out 180 1 [v1] →
 ((decide ((v2 : Int) = 1) = true →
  ((decide ((v3 : Int) = 1) = true →
   post [0] []) ∧ (decide ((v3 : Int) = 1) = false →
   post [(-1)] []))) ∧ (decide ((v2 : Int) = 1) = false →
  ((decide ((v3 : Int) = 1) = true →
   post [1] []) ∧ (decide ((v3 : Int) = 1) = false →
   ((decide ((v0 : Int) < v1) = true →
    post [(-1)] []) ∧ (decide ((v0 : Int) < v1) = false →
    ((decide ((v1 : Int) < v0) = true →
     post [1] []) ∧ (decide ((v1 : Int) < v0) = false →
     post [0] []))))))))
theorem q131 (T : Tab) (I : Nat → Env → Env → Prop) (M : Nat → Env → Env → Nat) (pre : Nat → List Int → List (List Int) → Prop) (post : List Int → List (List Int) → Prop) (v0 v1 : Int) : t131.plain T (presG pre I M) post ⟨[v0, v1], []⟩ = p131 T I M pre post v0 v1 := by kernel_rfl
theorem k131 (T : Tab) (I : Nat → Env → Env → Prop) (M : Nat → Env → Env → Nat) (pre : Nat → List Int → List (List Int) → Prop) (hs : SubSig T c131.sigs) (ht : TotG pre c131.sigs) (hg : T.sig 131 = some s131) (hC : CtAll Try.prog T.fns (presQ pre) c131.sigs) (hk : CpAll Try.prog c131.cps) (hi : ∀ xs ls, allHas (parIvs s131.params) xs → pre 131 xs ls → allHas iv131 xs)
    (h : ∀ (v0 v1 : Int), allHas iv131 [v0, v1] → allL (parLvs s131.params) [] → pre 131 [v0, v1] [] → p131 T I M pre (fun ys _ => ys = T.app 131 [v0, v1] []) v0 v1) : CT Try.prog T.fns (presQ pre) 131 s131 :=
  T.ctg (F := ⟨c131, []⟩) (fuel := 250) vc131 Try.checked.mixed hs ht hg hC hk Try.func131 I M (fun xs ls h1 h2 h3 => ⟨hi xs ls h1 h3, h2⟩) fun xs ls hx hl hp => by
    match xs, ls, hx, hl, hp with
    | [v0, v1], [], hx, hl, hp => rw [q131]; exact h v0 v1 hx hl hp
/-- (loop.example/g01242/impl.Ratio).order -/
def s67 : Sig := ⟨[.val true [.i .i64, .i .i64], .val true [.i .i64, .i .i64]], [(false, [.n .i64 (-1) 1])], true⟩
noncomputable def c67 : Cfg := ⟨Try.prog, [(131, s131)], [], [], [], []⟩
def iv67 : List Iv := [⟨(-9223372036854775808), 9223372036854775807⟩, ⟨(-9223372036854775808), 9223372036854775807⟩, ⟨(-9223372036854775808), 9223372036854775807⟩, ⟨(-9223372036854775808), 9223372036854775807⟩]
def t67 : VC :=
 (.call 131 (.e (.wrap .i64 (.mul (.var 0) (.var 3))) (.e (.wrap .i64 (.mul (.var 2) (.var 1))) .nil)) 1
 (.fin (.e (.var 4) .nil)))
theorem vc67 : vcOfI ⟨c67, []⟩ iv67 (parLvs s67.params) 250 Try.f67 s67 = t67 := by kernel_rfl
set_option linter.unusedVariables false in
def p67 (T : Tab) (I : Nat → Env → Env → Prop) (M : Nat → Env → Env → Nat) (pre : Nat → List Int → List (List Int) → Prop) (post : List Int → List (List Int) → Prop) (v0 v1 v2 v3 : Int) : Prop :=
 ∀ v4 : Int, [v4] = T.out 131 1 [(IntKind.wrap .i64 (v0 * v3)), (IntKind.wrap .i64 (v2 * v1))] →
 post [v4] []
theorem q67 (T : Tab) (I : Nat → Env → Env → Prop) (M : Nat → Env → Env → Nat) (pre : Nat → List Int → List (List Int) → Prop) (post : List Int → List (List Int) → Prop) (v0 v1 v2 v3 : Int) : t67.plain T (presG pre I M) post ⟨[v0, v1, v2, v3], []⟩ = p67 T I M pre post v0 v1 v2 v3 := by kernel_rfl
theorem k67 (T : Tab) (I : Nat → Env → Env → Prop) (M : Nat → Env → Env → Nat) (pre : Nat → List Int → List (List Int) → Prop) (hs : SubSig T c67.sigs) (ht : TotG pre c67.sigs) (hg : T.sig 67 = some s67) (hC : CtAll Try.prog T.fns (presQ pre) c67.sigs) (hk : CpAll Try.prog c67.cps) (hi : ∀ xs ls, allHas (parIvs s67.params) xs → pre 67 xs ls → allHas iv67 xs)
    (h : ∀ (v0 v1 v2 v3 : Int), allHas iv67 [v0, v1, v2, v3] → allL (parLvs s67.params) [] → pre 67 [v0, v1, v2, v3] [] → p67 T I M pre (fun ys _ => ys = T.app 67 [v0, v1, v2, v3] []) v0 v1 v2 v3) : CT Try.prog T.fns (presQ pre) 67 s67 :=
  T.ctg (F := ⟨c67, []⟩) (fuel := 250) vc67 Try.checked.mixed hs ht hg hC hk Try.func67 I M (fun xs ls h1 h2 h3 => ⟨hi xs ls h1 h3, h2⟩) fun xs ls hx hl hp => by
    match xs, ls, hx, hl, hp with
    | [v0, v1, v2, v3], [], hx, hl, hp => rw [q67]; exact h v0 v1 v2 v3 hx hl hp
/-- loop.example/g01242/spec.l03Order -/
def s64 : Sig := ⟨[.ptr [.i .i64, .i .i64], .ptr [.i .i64, .i .i64]], [(false, [.n .i64 (-1) 1])], true⟩
noncomputable def c64 : Cfg := ⟨Try.prog, [], [], [], [], []⟩
def iv64 : List Iv := [⟨(-9223372036854775808), 9223372036854775807⟩, ⟨(-9223372036854775808), 9223372036854775807⟩, ⟨(-9223372036854775808), 9223372036854775807⟩, ⟨(-9223372036854775808), 9223372036854775807⟩]
def t64 : VC :=
 (.bind (.wrap .i64 (.mul (.var 0) (.var 3)))
 (.bind (.wrap .i64 (.mul (.var 2) (.var 1)))
 (.ite (.lt (.var 4) (.var 5))
  (.fin (.e (.lit (-1)) .nil))
  (.ite (.lt (.var 5) (.var 4))
   (.fin (.e (.lit 1) .nil))
   (.fin (.e (.lit 0) .nil))))))
theorem vc64 : vcOfI ⟨c64, []⟩ iv64 (parLvs s64.params) 250 Try.f64 s64 = t64 := by kernel_rfl
set_option linter.unusedVariables false in
def p64 (T : Tab) (I : Nat → Env → Env → Prop) (M : Nat → Env → Env → Nat) (pre : Nat → List Int → List (List Int) → Prop) (post : List Int → List (List Int) → Prop) (v0 v1 v2 v3 : Int) : Prop :=
 ∀ v4 : Int, v4 = (IntKind.wrap .i64 (v0 * v3)) →
 ∀ v5 : Int, v5 = (IntKind.wrap .i64 (v2 * v1)) →
 ((decide ((v4 : Int) < v5) = true →
  post [(-1)] []) ∧ (decide ((v4 : Int) < v5) = false →
  ((decide ((v5 : Int) < v4) = true →
   post [1] []) ∧ (decide ((v5 : Int) < v4) = false →
   post [0] []))))
theorem q64 (T : Tab) (I : Nat → Env → Env → Prop) (M : Nat → Env → Env → Nat) (pre : Nat → List Int → List (List Int) → Prop) (post : List Int → List (List Int) → Prop) (v0 v1 v2 v3 : Int) : t64.plain T (presG pre I M) post ⟨[v0, v1, v2, v3], []⟩ = p64 T I M pre post v0 v1 v2 v3 := by kernel_rfl
theorem k64 (T : Tab) (I : Nat → Env → Env → Prop) (M : Nat → Env → Env → Nat) (pre : Nat → List Int → List (List Int) → Prop) (hs : SubSig T c64.sigs) (ht : TotG pre c64.sigs) (hg : T.sig 64 = some s64) (hC : CtAll Try.prog T.fns (presQ pre) c64.sigs) (hk : CpAll Try.prog c64.cps) (hi : ∀ xs ls, allHas (parIvs s64.params) xs → pre 64 xs ls → allHas iv64 xs)
    (h : ∀ (v0 v1 v2 v3 : Int), allHas iv64 [v0, v1, v2, v3] → allL (parLvs s64.params) [] → pre 64 [v0, v1, v2, v3] [] → p64 T I M pre (fun ys _ => ys = T.app 64 [v0, v1, v2, v3] []) v0 v1 v2 v3) : CT Try.prog T.fns (presQ pre) 64 s64 :=
  T.ctg (F := ⟨c64, []⟩) (fuel := 250) vc64 Try.checked.mixed hs ht hg hC hk Try.func64 I M (fun xs ls h1 h2 h3 => ⟨hi xs ls h1 h3, h2⟩) fun xs ls hx hl hp => by
    match xs, ls, hx, hl, hp with
    | [v0, v1, v2, v3], [], hx, hl, hp => rw [q64]; exact h v0 v1 v2 v3 hx hl hp
/-- loop.example/g01242/spec.PathOf -/
def s18 : SSig := ⟨[.val true [.i .i64, .i .i64]], [.s, .n false [.i .i64]], true⟩
noncomputable def c18 : Cfg := ⟨Try.prog, [(63, s63), (64, s64)], [], [], [], []⟩
def iv18 : List Iv := [⟨(-9223372036854775808), 9223372036854775807⟩, ⟨(-9223372036854775808), 9223372036854775807⟩]
def t18 : VC :=
 (.call 63 (.e (.var 0) (.e (.var 1) .nil)) 1
 (.ite (.not (.eq (.var 2) (.lit 1)))
  (.need []
  (.fin (.e (.lit 1) (.l (.lit []) .nil))))
  (.ite (.le (.var 0) (.lit 0))
   (.need []
   (.fin (.e (.lit 2) (.l (.lit []) .nil))))
   (.loop 1 [(.lit 0), (.lit 1), (.lit 1), (.lit 0)] [(.lit [])] [⟨(-9223372036854775808), 9223372036854775807⟩, ⟨(-9223372036854775808), 9223372036854775807⟩, ⟨(-9223372036854775808), 9223372036854775807⟩, ⟨(-9223372036854775808), 9223372036854775807⟩] [(⟨0, 255⟩, 9223372036854775807)]
    (.bind (.wrap .i64 (.add (.var 3) (.var 5)))
    (.bind (.wrap .i64 (.add (.var 4) (.var 6)))
    (.call 64 (.e (.var 0) (.e (.var 1) (.e (.var 7) (.e (.var 8) .nil)))) 1
    (.ite (.eq (.var 9) (.lit 0))
     (.need []
     (.fin (.e (.lit 0) (.l (.var 0) .nil))))
     (.ite (.eq (.len (.var 0)) (.lit 200))
      (.need []
      (.fin (.e (.lit 3) (.l (.lit []) .nil))))
      (.ite (.lt (.var 9) (.lit 0))
       (.need [(.b (.le (.len (.cat (.var 0) (.one (.lit 76)))) (.lit 1099511627776)))]
       (.need [(.b (.le (.len (.cat (.var 0) (.one (.lit 76)))) (.lit 9223372036854775807)))]
       (.again 1 3 0 [⟨(-9223372036854775808), 9223372036854775807⟩, ⟨(-9223372036854775808), 9223372036854775807⟩, ⟨(-9223372036854775808), 9223372036854775807⟩, ⟨(-9223372036854775808), 9223372036854775807⟩] [(.var 3), (.var 4), (.var 7), (.var 8)] [(.cat (.var 0) (.one (.lit 76)))])))
       (.need [(.b (.le (.len (.cat (.var 0) (.one (.lit 82)))) (.lit 1099511627776)))]
       (.need [(.b (.le (.len (.cat (.var 0) (.one (.lit 82)))) (.lit 9223372036854775807)))]
       (.again 1 3 0 [⟨(-9223372036854775808), 9223372036854775807⟩, ⟨(-9223372036854775808), 9223372036854775807⟩, ⟨(-9223372036854775808), 9223372036854775807⟩, ⟨(-9223372036854775808), 9223372036854775807⟩] [(.var 7), (.var 8), (.var 5), (.var 6)] [(.cat (.var 0) (.one (.lit 82)))])))))))))))))
theorem vc18 : vcSf ⟨c18, [(8, ⟨1, [], [1, 2], [17, 18, 19, 20, 21, 22, 23, 24, 25, 26, 27, 7, 28, 8, 29, 30, 31, 32, 2, 3, 33, 34, 35, 36, 37, 38, 39, 40, 6, 41, 42, 43, 44, 45], [⟨(-9223372036854775808), 9223372036854775807⟩, ⟨(-9223372036854775808), 9223372036854775807⟩, ⟨(-9223372036854775808), 9223372036854775807⟩, ⟨(-9223372036854775808), 9223372036854775807⟩], [3], [3]⟩)]⟩ iv18 (parLvs s18.params) 250 Try.f18 s18 = t18 := by kernel_rfl
set_option linter.unusedVariables false in
def p18 (T : Tab) (I : Nat → Env → Env → Prop) (M : Nat → Env → Env → Nat) (pre : Nat → List Int → List (List Int) → Prop) (post : List Int → List (List Int) → Prop) (v0 v1 : Int) : Prop :=
 ∀ v2 : Int, [v2] = T.out 63 1 [v0, v1] →
 (((!decide ((v2 : Int) = 1)) = true →
  ((True) ∧ ((True) →
  post [1] [([] : List Int)]))) ∧ ((!decide ((v2 : Int) = 1)) = false →
  ((decide ((v0 : Int) ≤ 0) = true →
   ((True) ∧ ((True) →
   post [2] [([] : List Int)]))) ∧ (decide ((v0 : Int) ≤ 0) = false →
   ((allHas [⟨(-9223372036854775808), 9223372036854775807⟩, ⟨(-9223372036854775808), 9223372036854775807⟩, ⟨(-9223372036854775808), 9223372036854775807⟩, ⟨(-9223372036854775808), 9223372036854775807⟩] [0, 1, 1, 0] ∧ I 1 ⟨[v0, v1, v2], []⟩ ⟨[0, 1, 1, 0], [([] : List Int)]⟩) ∧ ∀ v3 v4 v5 v6 : Int, ∀ l0 : List Int, allHas [⟨(-9223372036854775808), 9223372036854775807⟩, ⟨(-9223372036854775808), 9223372036854775807⟩, ⟨(-9223372036854775808), 9223372036854775807⟩, ⟨(-9223372036854775808), 9223372036854775807⟩] [v3, v4, v5, v6] → allL [(⟨0, 255⟩, 9223372036854775807)] [l0] → I 1 ⟨[v0, v1, v2], []⟩ ⟨[v3, v4, v5, v6], [l0]⟩ →
    ∀ v7 : Int, v7 = (IntKind.wrap .i64 (v3 + v5)) →
    ∀ v8 : Int, v8 = (IntKind.wrap .i64 (v4 + v6)) →
    ∀ v9 : Int, [v9] = T.out 64 1 [v0, v1, v7, v8] →
    ((decide ((v9 : Int) = 0) = true →
     ((True) ∧ ((True) →
     post [0] [l0]))) ∧ (decide ((v9 : Int) = 0) = false →
     ((decide (((List.length l0 : Int) : Int) = 200) = true →
      ((True) ∧ ((True) →
      post [3] [([] : List Int)]))) ∧ (decide (((List.length l0 : Int) : Int) = 200) = false →
      ((decide ((v9 : Int) < 0) = true →
       ((decide (((List.length (l0 ++ [76]) : Int) : Int) ≤ 1099511627776) = true) ∧ ((decide (((List.length (l0 ++ [76]) : Int) : Int) ≤ 1099511627776) = true) →
       ((decide (((List.length (l0 ++ [76]) : Int) : Int) ≤ 9223372036854775807) = true) ∧ ((decide (((List.length (l0 ++ [76]) : Int) : Int) ≤ 9223372036854775807) = true) →
       (allHas [⟨(-9223372036854775808), 9223372036854775807⟩, ⟨(-9223372036854775808), 9223372036854775807⟩, ⟨(-9223372036854775808), 9223372036854775807⟩, ⟨(-9223372036854775808), 9223372036854775807⟩] [v3, v4, v7, v8] ∧ I 1 ⟨[v0, v1, v2], []⟩ ⟨[v3, v4, v7, v8], [(l0 ++ [76])]⟩ ∧ M 1 ⟨[v0, v1, v2], []⟩ ⟨[v3, v4, v7, v8], [(l0 ++ [76])]⟩ < M 1 ⟨[v0, v1, v2], []⟩ ⟨[v3, v4, v5, v6], [l0]⟩)))))) ∧ (decide ((v9 : Int) < 0) = false →
       ((decide (((List.length (l0 ++ [82]) : Int) : Int) ≤ 1099511627776) = true) ∧ ((decide (((List.length (l0 ++ [82]) : Int) : Int) ≤ 1099511627776) = true) →
       ((decide (((List.length (l0 ++ [82]) : Int) : Int) ≤ 9223372036854775807) = true) ∧ ((decide (((List.length (l0 ++ [82]) : Int) : Int) ≤ 9223372036854775807) = true) →
       (allHas [⟨(-9223372036854775808), 9223372036854775807⟩, ⟨(-9223372036854775808), 9223372036854775807⟩, ⟨(-9223372036854775808), 9223372036854775807⟩, ⟨(-9223372036854775808), 9223372036854775807⟩] [v7, v8, v5, v6] ∧ I 1 ⟨[v0, v1, v2], []⟩ ⟨[v7, v8, v5, v6], [(l0 ++ [82])]⟩ ∧ M 1 ⟨[v0, v1, v2], []⟩ ⟨[v7, v8, v5, v6], [(l0 ++ [82])]⟩ < M 1 ⟨[v0, v1, v2], []⟩ ⟨[v3, v4, v5, v6], [l0]⟩))))))))))))))))
theorem q18 (T : Tab) (I : Nat → Env → Env → Prop) (M : Nat → Env → Env → Nat) (pre : Nat → List Int → List (List Int) → Prop) (post : List Int → List (List Int) → Prop) (v0 v1 : Int) : t18.plain T (presG pre I M) post ⟨[v0, v1], []⟩ = p18 T I M pre post v0 v1 := by kernel_rfl
theorem k18 (T : Tab) (I : Nat → Env → Env → Prop) (M : Nat → Env → Env → Nat) (pre : Nat → List Int → List (List Int) → Prop) (hs : SubSig T c18.sigs) (ht : TotG pre c18.sigs) (hC : CtAll Try.prog T.fns (presQ pre) c18.sigs) (hk : CpAll Try.prog c18.cps) (hi : ∀ xs ls, allHas (parIvs s18.params) xs → pre 18 xs ls → allHas iv18 xs)
    (h : ∀ (v0 v1 : Int), allHas iv18 [v0, v1] → allL (parLvs s18.params) [] → pre 18 [v0, v1] [] → p18 T I M pre (fun ys zs => T.fns 18 [v0, v1] [] = (ys, zs)) v0 v1) : CTS Try.prog T.fns (presQ pre) 18 s18 :=
  T.cts (F := ⟨c18, [(8, ⟨1, [], [1, 2], [17, 18, 19, 20, 21, 22, 23, 24, 25, 26, 27, 7, 28, 8, 29, 30, 31, 32, 2, 3, 33, 34, 35, 36, 37, 38, 39, 40, 6, 41, 42, 43, 44, 45], [⟨(-9223372036854775808), 9223372036854775807⟩, ⟨(-9223372036854775808), 9223372036854775807⟩, ⟨(-9223372036854775808), 9223372036854775807⟩, ⟨(-9223372036854775808), 9223372036854775807⟩], [3], [3]⟩)]⟩) (fuel := 250) vc18 Try.checked.mixed hs ht hC hk Try.func18 I M (fun xs ls h1 h2 h3 => ⟨hi xs ls h1 h3, h2⟩) fun xs ls hx hl hp => by
    match xs, ls, hx, hl, hp with
    | [v0, v1], [], hx, hl, hp => rw [q18]; exact h v0 v1 hx hl hp
/-- loop.example/g01242/impl.PathOf -/
def s20 : SSig := ⟨[.val true [.i .i64, .i .i64]], [.s, .n false [.i .i64]], true⟩
noncomputable def c20 : Cfg := ⟨Try.prog, [(65, s65), (66, s66), (68, s68), (67, s67), (69, s69)], [], [], [], []⟩
def iv20 : List Iv := [⟨(-9223372036854775808), 9223372036854775807⟩, ⟨(-9223372036854775808), 9223372036854775807⟩]
def t20 : VC :=
 (.call 65 (.e (.var 0) (.e (.var 1) .nil)) 1
 (.ite (.not (.eq (.var 2) (.lit 1)))
  (.need []
  (.fin (.e (.lit 1) (.l (.lit []) .nil))))
  (.ite (.le (.var 0) (.lit 0))
   (.need []
   (.fin (.e (.lit 2) (.l (.lit []) .nil))))
   (.call 66 .nil 4
   (.call 68 (.e (.var 3) (.e (.var 4) (.e (.var 5) (.e (.var 6) .nil)))) 2
   (.call 67 (.e (.var 0) (.e (.var 1) (.e (.var 7) (.e (.var 8) .nil)))) 1
   (.ite (.eq (.var 9) (.lit 0))
    (.need []
    (.fin (.e (.lit 0) (.l (.lit []) .nil))))
    (.bind (.ite (.lt (.lit 0) (.var 9)) (.lit 82) (.lit 76))
    (.call 69 (.e (.var 3) (.e (.var 4) (.e (.var 5) (.e (.var 6) (.e (.var 10) .nil))))) 4
    (.loop 1 [(.var 11), (.var 12), (.var 13), (.var 14)] [(.one (.var 10))] [⟨(-9223372036854775808), 9223372036854775807⟩, ⟨(-9223372036854775808), 9223372036854775807⟩, ⟨(-9223372036854775808), 9223372036854775807⟩, ⟨(-9223372036854775808), 9223372036854775807⟩] [(⟨0, 255⟩, 9223372036854775807)]
     (.call 68 (.e (.var 15) (.e (.var 16) (.e (.var 17) (.e (.var 18) .nil)))) 2
     (.call 67 (.e (.var 0) (.e (.var 1) (.e (.var 19) (.e (.var 20) .nil)))) 1
     (.ite (.eq (.var 21) (.lit 0))
      (.need []
      (.fin (.e (.lit 0) (.l (.var 0) .nil))))
      (.ite (.eq (.len (.var 0)) (.lit 200))
       (.need []
       (.fin (.e (.lit 3) (.l (.lit []) .nil))))
       (.bind (.ite (.lt (.lit 0) (.var 21)) (.lit 82) (.lit 76))
       (.need [(.b (.le (.len (.cat (.var 0) (.one (.var 22)))) (.lit 1099511627776)))]
       (.call 69 (.e (.var 15) (.e (.var 16) (.e (.var 17) (.e (.var 18) (.e (.var 22) .nil))))) 4
       (.need [(.b (.le (.len (.cat (.var 0) (.one (.var 22)))) (.lit 9223372036854775807)))]
       (.again 1 15 0 [⟨(-9223372036854775808), 9223372036854775807⟩, ⟨(-9223372036854775808), 9223372036854775807⟩, ⟨(-9223372036854775808), 9223372036854775807⟩, ⟨(-9223372036854775808), 9223372036854775807⟩] [(.var 23), (.var 24), (.var 25), (.var 26)] [(.cat (.var 0) (.one (.var 22)))])))))))))))))))))))
theorem vc20 : vcSf ⟨c20, [(7, ⟨1, [], [1], [15, 16, 17, 18, 6, 19, 20, 21, 22, 2, 3, 23, 24, 25, 7, 26, 27, 28, 29, 30, 31, 4, 32, 33, 34], [⟨(-9223372036854775808), 9223372036854775807⟩, ⟨(-9223372036854775808), 9223372036854775807⟩, ⟨(-9223372036854775808), 9223372036854775807⟩, ⟨(-9223372036854775808), 9223372036854775807⟩], [3], [3]⟩)]⟩ iv20 (parLvs s20.params) 250 Try.f20 s20 = t20 := by kernel_rfl
set_option linter.unusedVariables false in
def p20 (T : Tab) (I : Nat → Env → Env → Prop) (M : Nat → Env → Env → Nat) (pre : Nat → List Int → List (List Int) → Prop) (post : List Int → List (List Int) → Prop) (v0 v1 : Int) : Prop :=
 ∀ v2 : Int, [v2] = T.out 65 1 [v0, v1] →
 (((!decide ((v2 : Int) = 1)) = true →
  ((True) ∧ ((True) →
  post [1] [([] : List Int)]))) ∧ ((!decide ((v2 : Int) = 1)) = false →
  ((decide ((v0 : Int) ≤ 0) = true →
   ((True) ∧ ((True) →
   post [2] [([] : List Int)]))) ∧ (decide ((v0 : Int) ≤ 0) = false →
   ∀ v3 v4 v5 v6 : Int, [v3, v4, v5, v6] = T.out 66 4 [] →
   ∀ v7 v8 : Int, [v7, v8] = T.out 68 2 [v3, v4, v5, v6] →
   ∀ v9 : Int, [v9] = T.out 67 1 [v0, v1, v7, v8] →
   ((decide ((v9 : Int) = 0) = true →
    ((True) ∧ ((True) →
    post [0] [([] : List Int)]))) ∧ (decide ((v9 : Int) = 0) = false →
    ∀ v10 : Int, v10 = (if decide ((0 : Int) < v9) = true then 82 else 76) →
    ∀ v11 v12 v13 v14 : Int, [v11, v12, v13, v14] = T.out 69 4 [v3, v4, v5, v6, v10] →
    ((allHas [⟨(-9223372036854775808), 9223372036854775807⟩, ⟨(-9223372036854775808), 9223372036854775807⟩, ⟨(-9223372036854775808), 9223372036854775807⟩, ⟨(-9223372036854775808), 9223372036854775807⟩] [v11, v12, v13, v14] ∧ I 1 ⟨[v0, v1, v2, v3, v4, v5, v6, v7, v8, v9, v10, v11, v12, v13, v14], []⟩ ⟨[v11, v12, v13, v14], [[v10]]⟩) ∧ ∀ v15 v16 v17 v18 : Int, ∀ l0 : List Int, allHas [⟨(-9223372036854775808), 9223372036854775807⟩, ⟨(-9223372036854775808), 9223372036854775807⟩, ⟨(-9223372036854775808), 9223372036854775807⟩, ⟨(-9223372036854775808), 9223372036854775807⟩] [v15, v16, v17, v18] → allL [(⟨0, 255⟩, 9223372036854775807)] [l0] → I 1 ⟨[v0, v1, v2, v3, v4, v5, v6, v7, v8, v9, v10, v11, v12, v13, v14], []⟩ ⟨[v15, v16, v17, v18], [l0]⟩ →
     ∀ v19 v20 : Int, [v19, v20] = T.out 68 2 [v15, v16, v17, v18] →
     ∀ v21 : Int, [v21] = T.out 67 1 [v0, v1, v19, v20] →
     ((decide ((v21 : Int) = 0) = true →
      ((True) ∧ ((True) →
      post [0] [l0]))) ∧ (decide ((v21 : Int) = 0) = false →
      ((decide (((List.length l0 : Int) : Int) = 200) = true →
       ((True) ∧ ((True) →
       post [3] [([] : List Int)]))) ∧ (decide (((List.length l0 : Int) : Int) = 200) = false →
       ∀ v22 : Int, v22 = (if decide ((0 : Int) < v21) = true then 82 else 76) →
       ((decide (((List.length (l0 ++ [v22]) : Int) : Int) ≤ 1099511627776) = true) ∧ ((decide (((List.length (l0 ++ [v22]) : Int) : Int) ≤ 1099511627776) = true) →
       ∀ v23 v24 v25 v26 : Int, [v23, v24, v25, v26] = T.out 69 4 [v15, v16, v17, v18, v22] →
       ((decide (((List.length (l0 ++ [v22]) : Int) : Int) ≤ 9223372036854775807) = true) ∧ ((decide (((List.length (l0 ++ [v22]) : Int) : Int) ≤ 9223372036854775807) = true) →
       (allHas [⟨(-9223372036854775808), 9223372036854775807⟩, ⟨(-9223372036854775808), 9223372036854775807⟩, ⟨(-9223372036854775808), 9223372036854775807⟩, ⟨(-9223372036854775808), 9223372036854775807⟩] [v23, v24, v25, v26] ∧ I 1 ⟨[v0, v1, v2, v3, v4, v5, v6, v7, v8, v9, v10, v11, v12, v13, v14], []⟩ ⟨[v23, v24, v25, v26], [(l0 ++ [v22])]⟩ ∧ M 1 ⟨[v0, v1, v2, v3, v4, v5, v6, v7, v8, v9, v10, v11, v12, v13, v14], []⟩ ⟨[v23, v24, v25, v26], [(l0 ++ [v22])]⟩ < M 1 ⟨[v0, v1, v2, v3, v4, v5, v6, v7, v8, v9, v10, v11, v12, v13, v14], []⟩ ⟨[v15, v16, v17, v18], [l0]⟩))))))))))))))))
theorem q20 (T : Tab) (I : Nat → Env → Env → Prop) (M : Nat → Env → Env → Nat) (pre : Nat → List Int → List (List Int) → Prop) (post : List Int → List (List Int) → Prop) (v0 v1 : Int) : t20.plain T (presG pre I M) post ⟨[v0, v1], []⟩ = p20 T I M pre post v0 v1 := by kernel_rfl
theorem k20 (T : Tab) (I : Nat → Env → Env → Prop) (M : Nat → Env → Env → Nat) (pre : Nat → List Int → List (List Int) → Prop) (hs : SubSig T c20.sigs) (ht : TotG pre c20.sigs) (hC : CtAll Try.prog T.fns (presQ pre) c20.sigs) (hk : CpAll Try.prog c20.cps) (hi : ∀ xs ls, allHas (parIvs s20.params) xs → pre 20 xs ls → allHas iv20 xs)
    (h : ∀ (v0 v1 : Int), allHas iv20 [v0, v1] → allL (parLvs s20.params) [] → pre 20 [v0, v1] [] → p20 T I M pre (fun ys zs => T.fns 20 [v0, v1] [] = (ys, zs)) v0 v1) : CTS Try.prog T.fns (presQ pre) 20 s20 :=
  T.cts (F := ⟨c20, [(7, ⟨1, [], [1], [15, 16, 17, 18, 6, 19, 20, 21, 22, 2, 3, 23, 24, 25, 7, 26, 27, 28, 29, 30, 31, 4, 32, 33, 34], [⟨(-9223372036854775808), 9223372036854775807⟩, ⟨(-9223372036854775808), 9223372036854775807⟩, ⟨(-9223372036854775808), 9223372036854775807⟩, ⟨(-9223372036854775808), 9223372036854775807⟩], [3], [3]⟩)]⟩) (fuel := 250) vc20 Try.checked.mixed hs ht hC hk Try.func20 I M (fun xs ls h1 h2 h3 => ⟨hi xs ls h1 h3, h2⟩) fun xs ls hx hl hp => by
    match xs, ls, hx, hl, hp with
    | [v0, v1], [], hx, hl, hp => rw [q20]; exact h v0 v1 hx hl hp
/-- loop.example/g01242/laws.FnExactPathOf -/
def s4 : Sig := ⟨[.val true [.i .i64, .i .i64]], [(false, [.b])], true⟩
noncomputable def c4 : Cfg := ⟨Try.prog, [(19, s19)], [], [], [], [(18, s18), (20, s20)]⟩
def iv4 : List Iv := [⟨(-9223372036854775808), 9223372036854775807⟩, ⟨(-9223372036854775808), 9223372036854775807⟩]
def t4 : VC :=
 (.call 19 (.e (.var 0) (.e (.var 1) .nil)) 2
 (.calll 18 (.e (.var 2) (.e (.var 3) .nil)) [⟨(-9223372036854775808), 9223372036854775807⟩] [(⟨0, 255⟩, 9223372036854775807)]
 (.call 19 (.e (.var 0) (.e (.var 1) .nil)) 2
 (.calll 20 (.e (.var 5) (.e (.var 6) .nil)) [⟨(-9223372036854775808), 9223372036854775807⟩] [(⟨0, 255⟩, 9223372036854775807)]
 (.ite (.leq (.var 1) (.var 0))
  (.ite (.not (.eq (.var 7) (.var 4)))
   (.fin (.e (.lit 0) .nil))
   (.fin (.e (.lit 1) .nil)))
  (.fin (.e (.lit 0) .nil)))))))
theorem vc4 : vcOfI ⟨c4, []⟩ iv4 (parLvs s4.params) 250 Try.f4 s4 = t4 := by kernel_rfl
set_option linter.unusedVariables false in
def p4 (T : Tab) (I : Nat → Env → Env → Prop) (M : Nat → Env → Env → Nat) (pre : Nat → List Int → List (List Int) → Prop) (post : List Int → List (List Int) → Prop) (v0 v1 : Int) : Prop :=
 ∀ v2 v3 : Int, [v2, v3] = T.out 19 2 [v0, v1] →
 ∀ v4 : Int, ∀ l0 : List Int, allHas [⟨(-9223372036854775808), 9223372036854775807⟩] [v4] → allL [(⟨0, 255⟩, 9223372036854775807)] [l0] → ([v4], [l0]) = T.fns 18 [v2, v3] [] →
 ∀ v5 v6 : Int, [v5, v6] = T.out 19 2 [v0, v1] →
 ∀ v7 : Int, ∀ l1 : List Int, allHas [⟨(-9223372036854775808), 9223372036854775807⟩] [v7] → allL [(⟨0, 255⟩, 9223372036854775807)] [l1] → ([v7], [l1]) = T.fns 20 [v5, v6] [] →
 ((decide ((l1 : List Int) = l0) = true →
  (((!decide ((v7 : Int) = v4)) = true →
   post [0] []) ∧ ((!decide ((v7 : Int) = v4)) = false →
   post [1] []))) ∧ (decide ((l1 : List Int) = l0) = false →
  post [0] []))
theorem q4 (T : Tab) (I : Nat → Env → Env → Prop) (M : Nat → Env → Env → Nat) (pre : Nat → List Int → List (List Int) → Prop) (post : List Int → List (List Int) → Prop) (v0 v1 : Int) : t4.plain T (presG pre I M) post ⟨[v0, v1], []⟩ = p4 T I M pre post v0 v1 := by kernel_rfl
theorem k4 (T : Tab) (I : Nat → Env → Env → Prop) (M : Nat → Env → Env → Nat) (pre : Nat → List Int → List (List Int) → Prop) (hs : SubSig T c4.sigs) (ht : TotG pre c4.sigs) (hg : T.sig 4 = some s4) (hC : CtAll Try.prog T.fns (presQ pre) c4.sigs) (hk : CpAll Try.prog c4.cps) (hsf : SfAll Try.prog T.fns (presQ pre) c4.sfs) (hi : ∀ xs ls, allHas (parIvs s4.params) xs → pre 4 xs ls → allHas iv4 xs)
    (h : ∀ (v0 v1 : Int), allHas iv4 [v0, v1] → allL (parLvs s4.params) [] → pre 4 [v0, v1] [] → p4 T I M pre (fun ys _ => ys = T.app 4 [v0, v1] []) v0 v1) : CT Try.prog T.fns (presQ pre) 4 s4 :=
  T.ctg (hsf := hsf) (F := ⟨c4, []⟩) (fuel := 250) vc4 Try.checked.mixed hs ht hg hC hk Try.func4 I M (fun xs ls h1 h2 h3 => ⟨hi xs ls h1 h3, h2⟩) fun xs ls hx hl hp => by
    match xs, ls, hx, hl, hp with
    | [v0, v1], [], hx, hl, hp => rw [q4]; exact h v0 v1 hx hl hp
end Go.Proofs.Ytkjhakdobbfamaa.Sx
