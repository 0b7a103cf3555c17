import Derived.Test.YtfpodondpanmaaaSxY
import Derived.Test.YtfpodondpanmaaaA1
import Derived.Test.YtfpodondpanmaaaChecked
import Derived.KernelRfl
namespace Go.Proofs.Ytfpodondpanmaaa.Sx
open Go Go.RowKit
/-- loop.example/g01242/laws.eqInt64S -/
def s16 : Sig := ⟨[.lst [.i64], .lst [.i64]], [(false, [.b])], true⟩
noncomputable def c16 : Cfg := ⟨Try.prog, [], [], [], []⟩
def iv16 : List Iv := []
def t16 : VC :=
 (.ite (.not (.eq (.len (.var 0)) (.len (.var 1))))
  (.fin (.e (.lit 0) .nil))
  (.loop 1 [(.lit 0)] [] [⟨(-9223372036854775808), 9223372036854775807⟩] []
   (.ite (.lt (.var 0) (.len (.var 0)))
    (.need [(.b (.le (.lit 0) (.var 0))), (.b (.lt (.var 0) (.len (.var 0)))), (.b (.lt (.add (.lit 0) (.var 0)) (.len (.var 0)))), (.b (.le (.lit 0) (.var 0))), (.b (.lt (.var 0) (.len (.var 1)))), (.b (.lt (.add (.lit 0) (.var 0)) (.len (.var 1))))]
    (.bind (.at (.var 0) (.add (.lit 0) (.var 0)))
    (.bind (.at (.var 1) (.add (.lit 0) (.var 0)))
    (.ite (.not (.eq (.at (.var 0) (.add (.lit 0) (.var 0))) (.at (.var 1) (.add (.lit 0) (.var 0)))))
     (.fin (.e (.lit 0) .nil))
     (.bind (.wrap .i64 (.add (.var 0) (.lit 1)))
     (.again 1 0 2 [⟨(-9223372036854775808), 9223372036854775807⟩] [(.var 3)] []))))))
    (.fin (.e (.lit 1) .nil)))))
theorem vc16 : vcOfI ⟨c16, [(4, ⟨1, [5], [], [11, 12, 13, 14, 17, 18, 19, 20, 21, 22, 23, 24, 25, 4, 15, 16], [⟨(-9223372036854775808), 9223372036854775807⟩], [], []⟩)]⟩ iv16 (parLvs s16.params) 250 Try.f16 s16 = t16 := by kernel_rfl
set_option linter.unusedVariables false in
def p16 (T : Tab) (I : Nat → Env → Env → Prop) (M : Nat → Env → Env → Nat) (pre : Nat → List Int → List (List Int) → Prop) (post : List Int → List (List Int) → Prop) (l0 l1 : List Int) : Prop :=
 (((!decide (((List.length l0 : Int) : Int) = (List.length l1 : Int))) = true →
  post [0] []) ∧ ((!decide (((List.length l0 : Int) : Int) = (List.length l1 : Int))) = false →
  ((allHas [⟨(-9223372036854775808), 9223372036854775807⟩] [0] ∧ I 1 ⟨[], [l0, l1]⟩ ⟨[0], []⟩) ∧ ∀ v0 : Int, allHas [⟨(-9223372036854775808), 9223372036854775807⟩] [v0] → I 1 ⟨[], [l0, l1]⟩ ⟨[v0], []⟩ →
   ((decide ((v0 : Int) < (List.length l0 : Int)) = true →
    ((decide ((0 : Int) ≤ v0) = true ∧ decide ((v0 : Int) < (List.length l0 : Int)) = true ∧ decide (((0 + v0) : Int) < (List.length l0 : Int)) = true ∧ decide ((0 : Int) ≤ v0) = true ∧ decide ((v0 : Int) < (List.length l1 : Int)) = true ∧ decide (((0 + v0) : Int) < (List.length l1 : Int)) = true) ∧ ((decide ((0 : Int) ≤ v0) = true ∧ decide ((v0 : Int) < (List.length l0 : Int)) = true ∧ decide (((0 + v0) : Int) < (List.length l0 : Int)) = true ∧ decide ((0 : Int) ≤ v0) = true ∧ decide ((v0 : Int) < (List.length l1 : Int)) = true ∧ decide (((0 + v0) : Int) < (List.length l1 : Int)) = true) →
    ∀ v1 : Int, v1 = (List.getD l0 (Int.toNat (0 + v0)) 0) →
    ∀ v2 : Int, v2 = (List.getD l1 (Int.toNat (0 + v0)) 0) →
    (((!decide (((List.getD l0 (Int.toNat (0 + v0)) 0) : Int) = (List.getD l1 (Int.toNat (0 + v0)) 0))) = true →
     post [0] []) ∧ ((!decide (((List.getD l0 (Int.toNat (0 + v0)) 0) : Int) = (List.getD l1 (Int.toNat (0 + v0)) 0))) = false →
     ∀ v3 : Int, v3 = (IntKind.wrap .i64 (v0 + 1)) →
     (allHas [⟨(-9223372036854775808), 9223372036854775807⟩] [v3] ∧ I 1 ⟨[], [l0, l1]⟩ ⟨[v3], []⟩ ∧ M 1 ⟨[], [l0, l1]⟩ ⟨[v3], []⟩ < M 1 ⟨[], [l0, l1]⟩ ⟨[v0], []⟩)))))) ∧ (decide ((v0 : Int) < (List.length l0 : Int)) = false →
    post [1] [])))))
theorem q16 (T : Tab) (I : Nat → Env → Env → Prop) (M : Nat → Env → Env → Nat) (pre : Nat → List Int → List (List Int) → Prop) (post : List Int → List (List Int) → Prop) (l0 l1 : List Int) : t16.plain T (presG pre I M) post ⟨[], [l0, l1]⟩ = p16 T I M pre post l0 l1 := by kernel_rfl
theorem k16 (T : Tab) (I : Nat → Env → Env → Prop) (M : Nat → Env → Env → Nat) (pre : Nat → List Int → List (List Int) → Prop) (hs : SubSig T c16.sigs) (ht : TotG pre c16.sigs) (hg : T.sig 16 = some s16) (hC : CtAll Try.prog T.fns (presQ pre) c16.sigs) (hk : CpAll Try.prog c16.cps) (hi : ∀ xs ls, allHas (parIvs s16.params) xs → pre 16 xs ls → allHas iv16 xs)
    (h : ∀ (l0 l1 : List Int), allHas iv16 [] → allL (parLvs s16.params) [l0, l1] → pre 16 [] [l0, l1] → p16 T I M pre (fun ys _ => ys = T.app 16 [] [l0, l1]) l0 l1) : CT Try.prog T.fns (presQ pre) 16 s16 :=
  T.ctg (F := ⟨c16, [(4, ⟨1, [5], [], [11, 12, 13, 14, 17, 18, 19, 20, 21, 22, 23, 24, 25, 4, 15, 16], [⟨(-9223372036854775808), 9223372036854775807⟩], [], []⟩)]⟩) (fuel := 250) vc16 Try.checked.mixed hs ht hg hC hk Try.func16 I M (fun xs ls h1 h2 h3 => ⟨hi xs ls h1 h3, h2⟩) fun xs ls hx hl hp => by
    match xs, ls, hx, hl, hp with
    | [], [l0, l1], hx, hl, hp => rw [q16]; exact h l0 l1 hx hl hp
/-- loop.example/g01242/laws.toSeries -/
def s23 : Sig := ⟨[.val true [.i .i64, .i .i64, .i .i64, .i .i64, .b]], [(true, [.i .i64, .i .i64, .i .i64, .i .i64, .b])], true⟩
noncomputable def c23 : Cfg := ⟨Try.prog, [], [], [], []⟩
def iv23 : List Iv := [⟨(-9223372036854775808), 9223372036854775807⟩, ⟨(-9223372036854775808), 9223372036854775807⟩, ⟨(-9223372036854775808), 9223372036854775807⟩, ⟨(-9223372036854775808), 9223372036854775807⟩, ⟨0, 1⟩]
def t23 : VC :=
 (.fin (.e (.var 0) (.e (.var 1) (.e (.var 2) (.e (.var 3) (.e (.var 4) .nil))))))
theorem vc23 : vcOfI ⟨c23, []⟩ iv23 (parLvs s23.params) 250 Try.f23 s23 = t23 := by kernel_rfl
set_option linter.unusedVariables false in
def p23 (T : Tab) (I : Nat → Env → Env → Prop) (M : Nat → Env → Env → Nat) (pre : Nat → List Int → List (List Int) → Prop) (post : List Int → List (List Int) → Prop) (v0 v1 v2 v3 v4 : Int) : Prop :=
 post [v0, v1, v2, v3, v4] []
theorem q23 (T : Tab) (I : Nat → Env → Env → Prop) (M : Nat → Env → Env → Nat) (pre : Nat → List Int → List (List Int) → Prop) (post : List Int → List (List Int) → Prop) (v0 v1 v2 v3 v4 : Int) : t23.plain T (presG pre I M) post ⟨[v0, v1, v2, v3, v4], []⟩ = p23 T I M pre post v0 v1 v2 v3 v4 := by kernel_rfl
theorem k23 (T : Tab) (I : Nat → Env → Env → Prop) (M : Nat → Env → Env → Nat) (pre : Nat → List Int → List (List Int) → Prop) (hs : SubSig T c23.sigs) (ht : TotG pre c23.sigs) (hg : T.sig 23 = some s23) (hC : CtAll Try.prog T.fns (presQ pre) c23.sigs) (hk : CpAll Try.prog c23.cps) (hi : ∀ xs ls, allHas (parIvs s23.params) xs → pre 23 xs ls → allHas iv23 xs)
    (h : ∀ (v0 v1 v2 v3 v4 : Int), allHas iv23 [v0, v1, v2, v3, v4] → allL (parLvs s23.params) [] → pre 23 [v0, v1, v2, v3, v4] [] → p23 T I M pre (fun ys _ => ys = T.app 23 [v0, v1, v2, v3, v4] []) v0 v1 v2 v3 v4) : CT Try.prog T.fns (presQ pre) 23 s23 :=
  T.ctg (F := ⟨c23, []⟩) (fuel := 250) vc23 Try.checked.mixed hs ht hg hC hk Try.func23 I M (fun xs ls h1 h2 h3 => ⟨hi xs ls h1 h3, h2⟩) fun xs ls hx hl hp => by
    match xs, ls, hx, hl, hp with
    | [v0, v1, v2, v3, v4], [], hx, hl, hp => rw [q23]; exact h v0 v1 v2 v3 v4 hx hl hp
/-- loop.example/g01242/spec.l00In -/
def s62 : Sig := ⟨[.val false [.i .i64], .val false [.i .i64], .val false [.i .i64]], [(false, [.b])], true⟩
noncomputable def c62 : Cfg := ⟨Try.prog, [], [], [], []⟩
def iv62 : List Iv := [⟨(-9223372036854775808), 9223372036854775807⟩, ⟨(-9223372036854775808), 9223372036854775807⟩, ⟨(-9223372036854775808), 9223372036854775807⟩]
def t62 : VC :=
 (.ite (.le (.var 1) (.var 0))
  (.fin (.e (.ite (.le (.var 0) (.var 2)) (.lit 1) (.lit 0)) .nil))
  (.fin (.e (.lit 0) .nil)))
theorem vc62 : vcOfI ⟨c62, []⟩ iv62 (parLvs s62.params) 250 Try.f62 s62 = t62 := by kernel_rfl
set_option linter.unusedVariables false in
def p62 (T : Tab) (I : Nat → Env → Env → Prop) (M : Nat → Env → Env → Nat) (pre : Nat → List Int → List (List Int) → Prop) (post : List Int → List (List Int) → Prop) (v0 v1 v2 : Int) : Prop :=
 ((decide ((v1 : Int) ≤ v0) = true →
  post [(if decide ((v0 : Int) ≤ v2) = true then 1 else 0)] []) ∧ (decide ((v1 : Int) ≤ v0) = false →
  post [0] []))
theorem q62 (T : Tab) (I : Nat → Env → Env → Prop) (M : Nat → Env → Env → Nat) (pre : Nat → List Int → List (List Int) → Prop) (post : List Int → List (List Int) → Prop) (v0 v1 v2 : Int) : t62.plain T (presG pre I M) post ⟨[v0, v1, v2], []⟩ = p62 T I M pre post v0 v1 v2 := by kernel_rfl
theorem k62 (T : Tab) (I : Nat → Env → Env → Prop) (M : Nat → Env → Env → Nat) (pre : Nat → List Int → List (List Int) → Prop) (hs : SubSig T c62.sigs) (ht : TotG pre c62.sigs) (hg : T.sig 62 = some s62) (hC : CtAll Try.prog T.fns (presQ pre) c62.sigs) (hk : CpAll Try.prog c62.cps) (hi : ∀ xs ls, allHas (parIvs s62.params) xs → pre 62 xs ls → allHas iv62 xs)
    (h : ∀ (v0 v1 v2 : Int), allHas iv62 [v0, v1, v2] → allL (parLvs s62.params) [] → pre 62 [v0, v1, v2] [] → p62 T I M pre (fun ys _ => ys = T.app 62 [v0, v1, v2] []) v0 v1 v2) : CT Try.prog T.fns (presQ pre) 62 s62 :=
  T.ctg (F := ⟨c62, []⟩) (fuel := 250) vc62 Try.checked.mixed hs ht hg hC hk Try.func62 I M (fun xs ls h1 h2 h3 => ⟨hi xs ls h1 h3, h2⟩) fun xs ls hx hl hp => by
    match xs, ls, hx, hl, hp with
    | [v0, v1, v2], [], hx, hl, hp => rw [q62]; exact h v0 v1 v2 hx hl hp
/-- loop.example/g01242/spec.l05Series -/
def s50 : Sig := ⟨[.ptr [.i .i64, .i .i64, .i .i64, .i .i64, .b]], [(false, [.b])], true⟩
noncomputable def c50 : Cfg := ⟨Try.prog, [(62, s62)], [], [], []⟩
def iv50 : List Iv := [⟨(-9223372036854775808), 9223372036854775807⟩, ⟨(-9223372036854775808), 9223372036854775807⟩, ⟨(-9223372036854775808), 9223372036854775807⟩, ⟨(-9223372036854775808), 9223372036854775807⟩, ⟨0, 1⟩]
def t50 : VC :=
 (.ite (.eq (.app 62 0 (.e (.var 1) (.e (.lit 2) (.e (.lit 1000) .nil)))) (.lit 1))
  (.ite (.eq (.app 62 0 (.e (.var 0) (.e (.lit 1) (.e (.wrap .i64 (.tdiv (.var 1) (.lit 2))) .nil)))) (.lit 1))
   (.ite (.eq (.app 62 0 (.e (.var 2) (.e (.lit 1) (.e (.lit 1000) .nil)))) (.lit 1))
    (.call 62 (.e (.var 1) (.e (.lit 2) (.e (.lit 1000) .nil))) 1
    (.call 62 (.e (.var 0) (.e (.lit 1) (.e (.wrap .i64 (.tdiv (.var 1) (.lit 2))) .nil))) 1
    (.call 62 (.e (.var 2) (.e (.lit 1) (.e (.lit 1000) .nil))) 1
    (.call 62 (.e (.var 3) (.e (.lit 0) (.e (.lit 1000) .nil))) 1
    (.fin (.e (.var 8) .nil))))))
    (.call 62 (.e (.var 1) (.e (.lit 2) (.e (.lit 1000) .nil))) 1
    (.call 62 (.e (.var 0) (.e (.lit 1) (.e (.wrap .i64 (.tdiv (.var 1) (.lit 2))) .nil))) 1
    (.call 62 (.e (.var 2) (.e (.lit 1) (.e (.lit 1000) .nil))) 1
    (.fin (.e (.lit 0) .nil))))))
   (.call 62 (.e (.var 1) (.e (.lit 2) (.e (.lit 1000) .nil))) 1
   (.call 62 (.e (.var 0) (.e (.lit 1) (.e (.wrap .i64 (.tdiv (.var 1) (.lit 2))) .nil))) 1
   (.fin (.e (.lit 0) .nil)))))
  (.call 62 (.e (.var 1) (.e (.lit 2) (.e (.lit 1000) .nil))) 1
  (.fin (.e (.lit 0) .nil))))
theorem vc50 : vcOfI ⟨c50, []⟩ iv50 (parLvs s50.params) 250 Try.f50 s50 = t50 := by kernel_rfl
set_option linter.unusedVariables false in
def p50 (T : Tab) (I : Nat → Env → Env → Prop) (M : Nat → Env → Env → Nat) (pre : Nat → List Int → List (List Int) → Prop) (post : List Int → List (List Int) → Prop) (v0 v1 v2 v3 v4 : Int) : Prop :=
 ((decide (((List.getD (T.fns 62 [v1, 2, 1000] []).1 0 0) : Int) = 1) = true →
  ((decide (((List.getD (T.fns 62 [v0, 1, (IntKind.wrap .i64 (Int.tdiv v1 2))] []).1 0 0) : Int) = 1) = true →
   ((decide (((List.getD (T.fns 62 [v2, 1, 1000] []).1 0 0) : Int) = 1) = true →
    ∀ v5 : Int, [v5] = T.out 62 1 [v1, 2, 1000] →
    ∀ v6 : Int, [v6] = T.out 62 1 [v0, 1, (IntKind.wrap .i64 (Int.tdiv v1 2))] →
    ∀ v7 : Int, [v7] = T.out 62 1 [v2, 1, 1000] →
    ∀ v8 : Int, [v8] = T.out 62 1 [v3, 0, 1000] →
    post [v8] []) ∧ (decide (((List.getD (T.fns 62 [v2, 1, 1000] []).1 0 0) : Int) = 1) = false →
    ∀ v5 : Int, [v5] = T.out 62 1 [v1, 2, 1000] →
    ∀ v6 : Int, [v6] = T.out 62 1 [v0, 1, (IntKind.wrap .i64 (Int.tdiv v1 2))] →
    ∀ v7 : Int, [v7] = T.out 62 1 [v2, 1, 1000] →
    post [0] []))) ∧ (decide (((List.getD (T.fns 62 [v0, 1, (IntKind.wrap .i64 (Int.tdiv v1 2))] []).1 0 0) : Int) = 1) = false →
   ∀ v5 : Int, [v5] = T.out 62 1 [v1, 2, 1000] →
   ∀ v6 : Int, [v6] = T.out 62 1 [v0, 1, (IntKind.wrap .i64 (Int.tdiv v1 2))] →
   post [0] []))) ∧ (decide (((List.getD (T.fns 62 [v1, 2, 1000] []).1 0 0) : Int) = 1) = false →
  ∀ v5 : Int, [v5] = T.out 62 1 [v1, 2, 1000] →
  post [0] []))
theorem q50 (T : Tab) (I : Nat → Env → Env → Prop) (M : Nat → Env → Env → Nat) (pre : Nat → List Int → List (List Int) → Prop) (post : List Int → List (List Int) → Prop) (v0 v1 v2 v3 v4 : Int) : t50.plain T (presG pre I M) post ⟨[v0, v1, v2, v3, v4], []⟩ = p50 T I M pre post v0 v1 v2 v3 v4 := by kernel_rfl
theorem k50 (T : Tab) (I : Nat → Env → Env → Prop) (M : Nat → Env → Env → Nat) (pre : Nat → List Int → List (List Int) → Prop) (hs : SubSig T c50.sigs) (ht : TotG pre c50.sigs) (hg : T.sig 50 = some s50) (hC : CtAll Try.prog T.fns (presQ pre) c50.sigs) (hk : CpAll Try.prog c50.cps) (hi : ∀ xs ls, allHas (parIvs s50.params) xs → pre 50 xs ls → allHas iv50 xs)
    (h : ∀ (v0 v1 v2 v3 v4 : Int), allHas iv50 [v0, v1, v2, v3, v4] → allL (parLvs s50.params) [] → pre 50 [v0, v1, v2, v3, v4] [] → p50 T I M pre (fun ys _ => ys = T.app 50 [v0, v1, v2, v3, v4] []) v0 v1 v2 v3 v4) : CT Try.prog T.fns (presQ pre) 50 s50 :=
  T.ctg (F := ⟨c50, []⟩) (fuel := 250) vc50 Try.checked.mixed hs ht hg hC hk Try.func50 I M (fun xs ls h1 h2 h3 => ⟨hi xs ls h1 h3, h2⟩) fun xs ls hx hl hp => by
    match xs, ls, hx, hl, hp with
    | [v0, v1, v2, v3, v4], [], hx, hl, hp => rw [q50]; exact h v0 v1 v2 v3 v4 hx hl hp
/-- loop.example/g01242/spec.ValidSeries -/
def s22 : Sig := ⟨[.val true [.i .i64, .i .i64, .i .i64, .i .i64, .b]], [(false, [.b])], true⟩
noncomputable def c22 : Cfg := ⟨Try.prog, [(50, s50)], [], [], []⟩
def iv22 : List Iv := [⟨(-9223372036854775808), 9223372036854775807⟩, ⟨(-9223372036854775808), 9223372036854775807⟩, ⟨(-9223372036854775808), 9223372036854775807⟩, ⟨(-9223372036854775808), 9223372036854775807⟩, ⟨0, 1⟩]
def t22 : VC :=
 (.call 50 (.e (.var 0) (.e (.var 1) (.e (.var 2) (.e (.var 3) (.e (.var 4) .nil))))) 1
 (.fin (.e (.var 5) .nil)))
theorem vc22 : vcOfI ⟨c22, []⟩ iv22 (parLvs s22.params) 250 Try.f22 s22 = t22 := by kernel_rfl
set_option linter.unusedVariables false in
def p22 (T : Tab) (I : Nat → Env → Env → Prop) (M : Nat → Env → Env → Nat) (pre : Nat → List Int → List (List Int) → Prop) (post : List Int → List (List Int) → Prop) (v0 v1 v2 v3 v4 : Int) : Prop :=
 ∀ v5 : Int, [v5] = T.out 50 1 [v0, v1, v2, v3, v4] →
 post [v5] []
theorem q22 (T : Tab) (I : Nat → Env → Env → Prop) (M : Nat → Env → Env → Nat) (pre : Nat → List Int → List (List Int) → Prop) (post : List Int → List (List Int) → Prop) (v0 v1 v2 v3 v4 : Int) : t22.plain T (presG pre I M) post ⟨[v0, v1, v2, v3, v4], []⟩ = p22 T I M pre post v0 v1 v2 v3 v4 := by kernel_rfl
theorem k22 (T : Tab) (I : Nat → Env → Env → Prop) (M : Nat → Env → Env → Nat) (pre : Nat → List Int → List (List Int) → Prop) (hs : SubSig T c22.sigs) (ht : TotG pre c22.sigs) (hg : T.sig 22 = some s22) (hC : CtAll Try.prog T.fns (presQ pre) c22.sigs) (hk : CpAll Try.prog c22.cps) (hi : ∀ xs ls, allHas (parIvs s22.params) xs → pre 22 xs ls → allHas iv22 xs)
    (h : ∀ (v0 v1 v2 v3 v4 : Int), allHas iv22 [v0, v1, v2, v3, v4] → allL (parLvs s22.params) [] → pre 22 [v0, v1, v2, v3, v4] [] → p22 T I M pre (fun ys _ => ys = T.app 22 [v0, v1, v2, v3, v4] []) v0 v1 v2 v3 v4) : CT Try.prog T.fns (presQ pre) 22 s22 :=
  T.ctg (F := ⟨c22, []⟩) (fuel := 250) vc22 Try.checked.mixed hs ht hg hC hk Try.func22 I M (fun xs ls h1 h2 h3 => ⟨hi xs ls h1 h3, h2⟩) fun xs ls hx hl hp => by
    match xs, ls, hx, hl, hp with
    | [v0, v1, v2, v3, v4], [], hx, hl, hp => rw [q22]; exact h v0 v1 v2 v3 v4 hx hl hp
/-- loop.example/g01242/impl.ValidSeries -/
def s24 : Sig := ⟨[.val true [.i .i64, .i .i64, .i .i64, .i .i64, .b]], [(false, [.b])], true⟩
noncomputable def c24 : Cfg := ⟨Try.prog, [], [], [], []⟩
def iv24 : List Iv := [⟨(-9223372036854775808), 9223372036854775807⟩, ⟨(-9223372036854775808), 9223372036854775807⟩, ⟨(-9223372036854775808), 9223372036854775807⟩, ⟨(-9223372036854775808), 9223372036854775807⟩, ⟨0, 1⟩]
def t24 : VC :=
 (.ite (.le (.lit 2) (.var 1))
  (.ite (.le (.var 1) (.lit 1000))
   (.ite (.le (.lit 1) (.var 0))
    (.ite (.le (.var 0) (.div (.var 1) (.lit 2)))
     (.ite (.le (.lit 1) (.var 2))
      (.ite (.le (.var 2) (.lit 1000))
       (.ite (.le (.lit 0) (.var 3))
        (.fin (.e (.ite (.le (.var 3) (.lit 1000)) (.lit 1) (.lit 0)) .nil))
        (.fin (.e (.lit 0) .nil)))
       (.fin (.e (.lit 0) .nil)))
      (.fin (.e (.lit 0) .nil)))
     (.fin (.e (.lit 0) .nil)))
    (.fin (.e (.lit 0) .nil)))
   (.fin (.e (.lit 0) .nil)))
  (.fin (.e (.lit 0) .nil)))
theorem vc24 : vcOfI ⟨c24, []⟩ iv24 (parLvs s24.params) 250 Try.f24 s24 = t24 := by kernel_rfl
set_option linter.unusedVariables false in
def p24 (T : Tab) (I : Nat → Env → Env → Prop) (M : Nat → Env → Env → Nat) (pre : Nat → List Int → List (List Int) → Prop) (post : List Int → List (List Int) → Prop) (v0 v1 v2 v3 v4 : Int) : Prop :=
 ((decide ((2 : Int) ≤ v1) = true →
  ((decide ((v1 : Int) ≤ 1000) = true →
   ((decide ((1 : Int) ≤ v0) = true →
    ((decide ((v0 : Int) ≤ (v1 / 2)) = true →
     ((decide ((1 : Int) ≤ v2) = true →
      ((decide ((v2 : Int) ≤ 1000) = true →
       ((decide ((0 : Int) ≤ v3) = true →
        post [(if decide ((v3 : Int) ≤ 1000) = true then 1 else 0)] []) ∧ (decide ((0 : Int) ≤ v3) = false →
        post [0] []))) ∧ (decide ((v2 : Int) ≤ 1000) = false →
       post [0] []))) ∧ (decide ((1 : Int) ≤ v2) = false →
      post [0] []))) ∧ (decide ((v0 : Int) ≤ (v1 / 2)) = false →
     post [0] []))) ∧ (decide ((1 : Int) ≤ v0) = false →
    post [0] []))) ∧ (decide ((v1 : Int) ≤ 1000) = false →
   post [0] []))) ∧ (decide ((2 : Int) ≤ v1) = false →
  post [0] []))
theorem q24 (T : Tab) (I : Nat → Env → Env → Prop) (M : Nat → Env → Env → Nat) (pre : Nat → List Int → List (List Int) → Prop) (post : List Int → List (List Int) → Prop) (v0 v1 v2 v3 v4 : Int) : t24.plain T (presG pre I M) post ⟨[v0, v1, v2, v3, v4], []⟩ = p24 T I M pre post v0 v1 v2 v3 v4 := by kernel_rfl
theorem k24 (T : Tab) (I : Nat → Env → Env → Prop) (M : Nat → Env → Env → Nat) (pre : Nat → List Int → List (List Int) → Prop) (hs : SubSig T c24.sigs) (ht : TotG pre c24.sigs) (hg : T.sig 24 = some s24) (hC : CtAll Try.prog T.fns (presQ pre) c24.sigs) (hk : CpAll Try.prog c24.cps) (hi : ∀ xs ls, allHas (parIvs s24.params) xs → pre 24 xs ls → allHas iv24 xs)
    (h : ∀ (v0 v1 v2 v3 v4 : Int), allHas iv24 [v0, v1, v2, v3, v4] → allL (parLvs s24.params) [] → pre 24 [v0, v1, v2, v3, v4] [] → p24 T I M pre (fun ys _ => ys = T.app 24 [v0, v1, v2, v3, v4] []) v0 v1 v2 v3 v4) : CT Try.prog T.fns (presQ pre) 24 s24 :=
  T.ctg (F := ⟨c24, []⟩) (fuel := 250) vc24 Try.checked.mixed hs ht hg hC hk Try.func24 I M (fun xs ls h1 h2 h3 => ⟨hi xs ls h1 h3, h2⟩) fun xs ls hx hl hp => by
    match xs, ls, hx, hl, hp with
    | [v0, v1, v2, v3, v4], [], hx, hl, hp => rw [q24]; exact h v0 v1 v2 v3 v4 hx hl hp
/-- loop.example/g01242/laws.FnExactValidSeries -/
def s6 : Sig := ⟨[.val true [.i .i64, .i .i64, .i .i64, .i .i64, .b]], [(false, [.b])], true⟩
noncomputable def c6 : Cfg := ⟨Try.prog, [(23, s23), (22, s22), (24, s24)], [], [], []⟩
def iv6 : List Iv := [⟨(-9223372036854775808), 9223372036854775807⟩, ⟨(-9223372036854775808), 9223372036854775807⟩, ⟨(-9223372036854775808), 9223372036854775807⟩, ⟨(-9223372036854775808), 9223372036854775807⟩, ⟨0, 1⟩]
def t6 : VC :=
 (.call 23 (.e (.var 0) (.e (.var 1) (.e (.var 2) (.e (.var 3) (.e (.var 4) .nil))))) 5
 (.call 22 (.e (.var 5) (.e (.var 6) (.e (.var 7) (.e (.var 8) (.e (.var 9) .nil))))) 1
 (.call 23 (.e (.var 0) (.e (.var 1) (.e (.var 2) (.e (.var 3) (.e (.var 4) .nil))))) 5
 (.call 24 (.e (.var 11) (.e (.var 12) (.e (.var 13) (.e (.var 14) (.e (.var 15) .nil))))) 1
 (.ite (.not (.beq (.eq (.var 16) (.lit 1)) (.eq (.var 10) (.lit 1))))
  (.fin (.e (.lit 0) .nil))
  (.fin (.e (.lit 1) .nil)))))))
theorem vc6 : vcOfI ⟨c6, []⟩ iv6 (parLvs s6.params) 250 Try.f6 s6 = t6 := by kernel_rfl
set_option linter.unusedVariables false in
def p6 (T : Tab) (I : Nat → Env → Env → Prop) (M : Nat → Env → Env → Nat) (pre : Nat → List Int → List (List Int) → Prop) (post : List Int → List (List Int) → Prop) (v0 v1 v2 v3 v4 : Int) : Prop :=
 ∀ v5 v6 v7 v8 v9 : Int, [v5, v6, v7, v8, v9] = T.out 23 5 [v0, v1, v2, v3, v4] →
 ∀ v10 : Int, [v10] = T.out 22 1 [v5, v6, v7, v8, v9] →
 ∀ v11 v12 v13 v14 v15 : Int, [v11, v12, v13, v14, v15] = T.out 23 5 [v0, v1, v2, v3, v4] →
 ∀ v16 : Int, [v16] = T.out 24 1 [v11, v12, v13, v14, v15] →
 (((!(decide ((v16 : Int) = 1) == decide ((v10 : Int) = 1))) = true →
  post [0] []) ∧ ((!(decide ((v16 : Int) = 1) == decide ((v10 : Int) = 1))) = false →
  post [1] []))
theorem q6 (T : Tab) (I : Nat → Env → Env → Prop) (M : Nat → Env → Env → Nat) (pre : Nat → List Int → List (List Int) → Prop) (post : List Int → List (List Int) → Prop) (v0 v1 v2 v3 v4 : Int) : t6.plain T (presG pre I M) post ⟨[v0, v1, v2, v3, v4], []⟩ = p6 T I M pre post v0 v1 v2 v3 v4 := by kernel_rfl
theorem k6 (T : Tab) (I : Nat → Env → Env → Prop) (M : Nat → Env → Env → Nat) (pre : Nat → List Int → List (List Int) → Prop) (hs : SubSig T c6.sigs) (ht : TotG pre c6.sigs) (hg : T.sig 6 = some s6) (hC : CtAll Try.prog T.fns (presQ pre) c6.sigs) (hk : CpAll Try.prog c6.cps) (hi : ∀ xs ls, allHas (parIvs s6.params) xs → pre 6 xs ls → allHas iv6 xs)
    (h : ∀ (v0 v1 v2 v3 v4 : Int), allHas iv6 [v0, v1, v2, v3, v4] → allL (parLvs s6.params) [] → pre 6 [v0, v1, v2, v3, v4] [] → p6 T I M pre (fun ys _ => ys = T.app 6 [v0, v1, v2, v3, v4] []) v0 v1 v2 v3 v4) : CT Try.prog T.fns (presQ pre) 6 s6 :=
  T.ctg (F := ⟨c6, []⟩) (fuel := 250) vc6 Try.checked.mixed hs ht hg hC hk Try.func6 I M (fun xs ls h1 h2 h3 => ⟨hi xs ls h1 h3, h2⟩) fun xs ls hx hl hp => by
    match xs, ls, hx, hl, hp with
    | [v0, v1, v2, v3, v4], [], hx, hl, hp => rw [q6]; exact h v0 v1 v2 v3 v4 hx hl hp
/-- loop.example/g01242/spec.l05Ok -/
def s43 : Sig := ⟨[.lst [.i64]], [(false, [.b])], true⟩
noncomputable def c43 : Cfg := ⟨Try.prog, [(62, s62)], [], [], []⟩
def iv43 : List Iv := []
def t43 : VC :=
 (.call 62 (.e (.len (.var 0)) (.e (.lit 2) (.e (.lit 9) .nil))) 1
 (.ite (.eq (.var 0) (.lit 1))
  (.need [(.b (.le (.lit 0) (.sub (.len (.var 0)) (.lit 1)))), (.b (.lt (.sub (.len (.var 0)) (.lit 1)) (.len (.var 0))))]
  (.need [(.b (.lt (.add (.lit 0) (.sub (.len (.var 0)) (.lit 1))) (.len (.var 0))))]
  (.bind (.at (.var 0) (.add (.lit 0) (.sub (.len (.var 0)) (.lit 1))))
  (.ite (.eq (.var 1) (.lit 0))
   (.fin (.e (.lit 0) .nil))
   (.loop 1 [(.lit 0)] [] [⟨(-9223372036854775808), 9223372036854775807⟩] []
    (.ite (.lt (.var 2) (.len (.var 0)))
     (.need [(.b (.le (.lit 0) (.var 2))), (.b (.lt (.var 2) (.len (.var 0))))]
     (.need [(.b (.lt (.add (.lit 0) (.var 2)) (.len (.var 0))))]
     (.bind (.at (.var 0) (.add (.lit 0) (.var 2)))
     (.call 62 (.e (.var 3) (.e (.lit (-1000000)) (.e (.lit 1000000) .nil))) 1
     (.ite (.not (.eq (.var 4) (.lit 1)))
      (.fin (.e (.lit 0) .nil))
      (.bind (.wrap .i64 (.add (.var 2) (.lit 1)))
      (.again 1 2 1 [⟨(-9223372036854775808), 9223372036854775807⟩] [(.var 5)] [])))))))
     (.fin (.e (.lit 1) .nil))))))))
  (.fin (.e (.lit 0) .nil))))
theorem vc43 : vcOfI ⟨c43, [(4, ⟨1, [3], [], [17, 18, 19, 20, 23, 24, 25, 26, 27, 28, 2, 21, 22, 13], [⟨(-9223372036854775808), 9223372036854775807⟩], [], []⟩)]⟩ iv43 (parLvs s43.params) 250 Try.f43 s43 = t43 := by kernel_rfl
set_option linter.unusedVariables false in
def p43 (T : Tab) (I : Nat → Env → Env → Prop) (M : Nat → Env → Env → Nat) (pre : Nat → List Int → List (List Int) → Prop) (post : List Int → List (List Int) → Prop) (l0 : List Int) : Prop :=
 ∀ v0 : Int, [v0] = T.out 62 1 [(List.length l0 : Int), 2, 9] →
 ((decide ((v0 : Int) = 1) = true →
  ((decide ((0 : Int) ≤ ((List.length l0 : Int) - 1)) = true ∧ decide ((((List.length l0 : Int) - 1) : Int) < (List.length l0 : Int)) = true) ∧ ((decide ((0 : Int) ≤ ((List.length l0 : Int) - 1)) = true ∧ decide ((((List.length l0 : Int) - 1) : Int) < (List.length l0 : Int)) = true) →
  ((decide (((0 + ((List.length l0 : Int) - 1)) : Int) < (List.length l0 : Int)) = true) ∧ ((decide (((0 + ((List.length l0 : Int) - 1)) : Int) < (List.length l0 : Int)) = true) →
  ∀ v1 : Int, v1 = (List.getD l0 (Int.toNat (0 + ((List.length l0 : Int) - 1))) 0) →
  ((decide ((v1 : Int) = 0) = true →
   post [0] []) ∧ (decide ((v1 : Int) = 0) = false →
   ((allHas [⟨(-9223372036854775808), 9223372036854775807⟩] [0] ∧ I 1 ⟨[v0, v1], [l0]⟩ ⟨[0], []⟩) ∧ ∀ v2 : Int, allHas [⟨(-9223372036854775808), 9223372036854775807⟩] [v2] → I 1 ⟨[v0, v1], [l0]⟩ ⟨[v2], []⟩ →
    ((decide ((v2 : Int) < (List.length l0 : Int)) = true →
     ((decide ((0 : Int) ≤ v2) = true ∧ decide ((v2 : Int) < (List.length l0 : Int)) = true) ∧ ((decide ((0 : Int) ≤ v2) = true ∧ decide ((v2 : Int) < (List.length l0 : Int)) = true) →
     ((decide (((0 + v2) : Int) < (List.length l0 : Int)) = true) ∧ ((decide (((0 + v2) : Int) < (List.length l0 : Int)) = true) →
     ∀ v3 : Int, v3 = (List.getD l0 (Int.toNat (0 + v2)) 0) →
     ∀ v4 : Int, [v4] = T.out 62 1 [v3, (-1000000), 1000000] →
     (((!decide ((v4 : Int) = 1)) = true →
      post [0] []) ∧ ((!decide ((v4 : Int) = 1)) = false →
      ∀ v5 : Int, v5 = (IntKind.wrap .i64 (v2 + 1)) →
      (allHas [⟨(-9223372036854775808), 9223372036854775807⟩] [v5] ∧ I 1 ⟨[v0, v1], [l0]⟩ ⟨[v5], []⟩ ∧ M 1 ⟨[v0, v1], [l0]⟩ ⟨[v5], []⟩ < M 1 ⟨[v0, v1], [l0]⟩ ⟨[v2], []⟩)))))))) ∧ (decide ((v2 : Int) < (List.length l0 : Int)) = false →
     post [1] [])))))))))) ∧ (decide ((v0 : Int) = 1) = false →
  post [0] []))
theorem q43 (T : Tab) (I : Nat → Env → Env → Prop) (M : Nat → Env → Env → Nat) (pre : Nat → List Int → List (List Int) → Prop) (post : List Int → List (List Int) → Prop) (l0 : List Int) : t43.plain T (presG pre I M) post ⟨[], [l0]⟩ = p43 T I M pre post l0 := by kernel_rfl
theorem k43 (T : Tab) (I : Nat → Env → Env → Prop) (M : Nat → Env → Env → Nat) (pre : Nat → List Int → List (List Int) → Prop) (hs : SubSig T c43.sigs) (ht : TotG pre c43.sigs) (hg : T.sig 43 = some s43) (hC : CtAll Try.prog T.fns (presQ pre) c43.sigs) (hk : CpAll Try.prog c43.cps) (hi : ∀ xs ls, allHas (parIvs s43.params) xs → pre 43 xs ls → allHas iv43 xs)
    (h : ∀ (l0 : List Int), allHas iv43 [] → allL (parLvs s43.params) [l0] → pre 43 [] [l0] → p43 T I M pre (fun ys _ => ys = T.app 43 [] [l0]) l0) : CT Try.prog T.fns (presQ pre) 43 s43 :=
  T.ctg (F := ⟨c43, [(4, ⟨1, [3], [], [17, 18, 19, 20, 23, 24, 25, 26, 27, 28, 2, 21, 22, 13], [⟨(-9223372036854775808), 9223372036854775807⟩], [], []⟩)]⟩) (fuel := 250) vc43 Try.checked.mixed hs ht hg hC hk Try.func43 I M (fun xs ls h1 h2 h3 => ⟨hi xs ls h1 h3, h2⟩) fun xs ls hx hl hp => by
    match xs, ls, hx, hl, hp with
    | [], [l0], hx, hl, hp => rw [q43]; exact h l0 hx hl hp
/-- loop.example/g01242/spec.ValidPoly -/
def s13 : Sig := ⟨[.lst [.i64]], [(false, [.b])], true⟩
noncomputable def c13 : Cfg := ⟨Try.prog, [(43, s43)], [], [], []⟩
def iv13 : List Iv := []
def t13 : VC :=
 (.call 43 (.l (.var 0) .nil) 1
 (.fin (.e (.var 0) .nil)))
theorem vc13 : vcOfI ⟨c13, []⟩ iv13 (parLvs s13.params) 250 Try.f13 s13 = t13 := by kernel_rfl
set_option linter.unusedVariables false in
def p13 (T : Tab) (I : Nat → Env → Env → Prop) (M : Nat → Env → Env → Nat) (pre : Nat → List Int → List (List Int) → Prop) (post : List Int → List (List Int) → Prop) (l0 : List Int) : Prop :=
 ∀ v0 : Int, [v0] = T.outL 43 1 [] [l0] →
 post [v0] []
theorem q13 (T : Tab) (I : Nat → Env → Env → Prop) (M : Nat → Env → Env → Nat) (pre : Nat → List Int → List (List Int) → Prop) (post : List Int → List (List Int) → Prop) (l0 : List Int) : t13.plain T (presG pre I M) post ⟨[], [l0]⟩ = p13 T I M pre post l0 := by kernel_rfl
theorem k13 (T : Tab) (I : Nat → Env → Env → Prop) (M : Nat → Env → Env → Nat) (pre : Nat → List Int → List (List Int) → Prop) (hs : SubSig T c13.sigs) (ht : TotG pre c13.sigs) (hg : T.sig 13 = some s13) (hC : CtAll Try.prog T.fns (presQ pre) c13.sigs) (hk : CpAll Try.prog c13.cps) (hi : ∀ xs ls, allHas (parIvs s13.params) xs → pre 13 xs ls → allHas iv13 xs)
    (h : ∀ (l0 : List Int), allHas iv13 [] → allL (parLvs s13.params) [l0] → pre 13 [] [l0] → p13 T I M pre (fun ys _ => ys = T.app 13 [] [l0]) l0) : CT Try.prog T.fns (presQ pre) 13 s13 :=
  T.ctg (F := ⟨c13, []⟩) (fuel := 250) vc13 Try.checked.mixed hs ht hg hC hk Try.func13 I M (fun xs ls h1 h2 h3 => ⟨hi xs ls h1 h3, h2⟩) fun xs ls hx hl hp => by
    match xs, ls, hx, hl, hp with
    | [], [l0], hx, hl, hp => rw [q13]; exact h l0 hx hl hp
/-- loop.example/g01242/impl.isWithin -/
def s44 : Sig := ⟨[.val false [.i .i64], .val false [.i .i64]], [(false, [.b])], true⟩
noncomputable def c44 : Cfg := ⟨Try.prog, [], [], [], []⟩
def iv44 : List Iv := [⟨(-9223372036854775808), 9223372036854775807⟩, ⟨(-9223372036854775808), 9223372036854775807⟩]
def t44 : VC :=
 (.ite (.le (.wrap .i64 (.sub (.lit 0) (.var 1))) (.var 0))
  (.fin (.e (.ite (.le (.var 0) (.var 1)) (.lit 1) (.lit 0)) .nil))
  (.fin (.e (.lit 0) .nil)))
theorem vc44 : vcOfI ⟨c44, []⟩ iv44 (parLvs s44.params) 250 Try.f44 s44 = t44 := by kernel_rfl
set_option linter.unusedVariables false in
def p44 (T : Tab) (I : Nat → Env → Env → Prop) (M : Nat → Env → Env → Nat) (pre : Nat → List Int → List (List Int) → Prop) (post : List Int → List (List Int) → Prop) (v0 v1 : Int) : Prop :=
 ((decide (((IntKind.wrap .i64 (0 - v1)) : Int) ≤ v0) = true →
  post [(if decide ((v0 : Int) ≤ v1) = true then 1 else 0)] []) ∧ (decide (((IntKind.wrap .i64 (0 - v1)) : Int) ≤ v0) = false →
  post [0] []))
theorem q44 (T : Tab) (I : Nat → Env → Env → Prop) (M : Nat → Env → Env → Nat) (pre : Nat → List Int → List (List Int) → Prop) (post : List Int → List (List Int) → Prop) (v0 v1 : Int) : t44.plain T (presG pre I M) post ⟨[v0, v1], []⟩ = p44 T I M pre post v0 v1 := by kernel_rfl
theorem k44 (T : Tab) (I : Nat → Env → Env → Prop) (M : Nat → Env → Env → Nat) (pre : Nat → List Int → List (List Int) → Prop) (hs : SubSig T c44.sigs) (ht : TotG pre c44.sigs) (hg : T.sig 44 = some s44) (hC : CtAll Try.prog T.fns (presQ pre) c44.sigs) (hk : CpAll Try.prog c44.cps) (hi : ∀ xs ls, allHas (parIvs s44.params) xs → pre 44 xs ls → allHas iv44 xs)
    (h : ∀ (v0 v1 : Int), allHas iv44 [v0, v1] → allL (parLvs s44.params) [] → pre 44 [v0, v1] [] → p44 T I M pre (fun ys _ => ys = T.app 44 [v0, v1] []) v0 v1) : CT Try.prog T.fns (presQ pre) 44 s44 :=
  T.ctg (F := ⟨c44, []⟩) (fuel := 250) vc44 Try.checked.mixed hs ht hg hC hk Try.func44 I M (fun xs ls h1 h2 h3 => ⟨hi xs ls h1 h3, h2⟩) fun xs ls hx hl hp => by
    match xs, ls, hx, hl, hp with
    | [v0, v1], [], hx, hl, hp => rw [q44]; exact h v0 v1 hx hl hp
/-- loop.example/g01242/impl.ValidPoly -/
def s15 : Sig := ⟨[.lst [.i64]], [(false, [.b])], true⟩
noncomputable def c15 : Cfg := ⟨Try.prog, [(44, s44)], [], [], []⟩
def iv15 : List Iv := []
def t15 : VC :=
 (.ite (.le (.lit 2) (.len (.var 0)))
  (.ite (.lt (.lit 9) (.len (.var 0)))
   (.fin (.e (.lit 0) .nil))
   (.loop 1 [(.lit 0)] [] [⟨(-9223372036854775808), 9223372036854775807⟩] []
    (.ite (.lt (.var 0) (.len (.var 0)))
     (.need [(.b (.le (.lit 0) (.var 0))), (.b (.lt (.var 0) (.len (.var 0))))]
     (.need [(.b (.lt (.add (.lit 0) (.var 0)) (.len (.var 0))))]
     (.bind (.at (.var 0) (.add (.lit 0) (.var 0)))
     (.call 44 (.e (.var 1) (.e (.lit 1000000) .nil)) 1
     (.ite (.not (.eq (.var 2) (.lit 1)))
      (.fin (.e (.lit 0) .nil))
      (.again 1 0 1 [⟨(-9223372036854775808), 9223372036854775807⟩] [(.wrap .i64 (.add (.var 0) (.lit 1)))] []))))))
     (.need [(.b (.le (.lit 0) (.sub (.len (.var 0)) (.lit 1)))), (.b (.lt (.sub (.len (.var 0)) (.lit 1)) (.len (.var 0))))]
     (.need [(.b (.lt (.add (.lit 0) (.sub (.len (.var 0)) (.lit 1))) (.len (.var 0))))]
     (.bind (.at (.var 0) (.add (.lit 0) (.sub (.len (.var 0)) (.lit 1))))
     (.fin (.e (.ite (.not (.eq (.var 1) (.lit 0))) (.lit 1) (.lit 0)) .nil))))))))
  (.fin (.e (.lit 0) .nil)))
theorem vc15 : vcOfI ⟨c15, [(4, ⟨1, [15], [], [16, 17, 18, 4, 19, 20, 21, 2, 22, 27], [⟨(-9223372036854775808), 9223372036854775807⟩], [], []⟩)]⟩ iv15 (parLvs s15.params) 250 Try.f15 s15 = t15 := by kernel_rfl
set_option linter.unusedVariables false in
def p15 (T : Tab) (I : Nat → Env → Env → Prop) (M : Nat → Env → Env → Nat) (pre : Nat → List Int → List (List Int) → Prop) (post : List Int → List (List Int) → Prop) (l0 : List Int) : Prop :=
 ((decide ((2 : Int) ≤ (List.length l0 : Int)) = true →
  ((decide ((9 : Int) < (List.length l0 : Int)) = true →
   post [0] []) ∧ (decide ((9 : Int) < (List.length l0 : Int)) = false →
   ((allHas [⟨(-9223372036854775808), 9223372036854775807⟩] [0] ∧ I 1 ⟨[], [l0]⟩ ⟨[0], []⟩) ∧ ∀ v0 : Int, allHas [⟨(-9223372036854775808), 9223372036854775807⟩] [v0] → I 1 ⟨[], [l0]⟩ ⟨[v0], []⟩ →
    ((decide ((v0 : Int) < (List.length l0 : Int)) = true →
     ((decide ((0 : Int) ≤ v0) = true ∧ decide ((v0 : Int) < (List.length l0 : Int)) = true) ∧ ((decide ((0 : Int) ≤ v0) = true ∧ decide ((v0 : Int) < (List.length l0 : Int)) = true) →
     ((decide (((0 + v0) : Int) < (List.length l0 : Int)) = true) ∧ ((decide (((0 + v0) : Int) < (List.length l0 : Int)) = true) →
     ∀ v1 : Int, v1 = (List.getD l0 (Int.toNat (0 + v0)) 0) →
     ∀ v2 : Int, [v2] = T.out 44 1 [v1, 1000000] →
     (((!decide ((v2 : Int) = 1)) = true →
      post [0] []) ∧ ((!decide ((v2 : Int) = 1)) = false →
      (allHas [⟨(-9223372036854775808), 9223372036854775807⟩] [(IntKind.wrap .i64 (v0 + 1))] ∧ I 1 ⟨[], [l0]⟩ ⟨[(IntKind.wrap .i64 (v0 + 1))], []⟩ ∧ M 1 ⟨[], [l0]⟩ ⟨[(IntKind.wrap .i64 (v0 + 1))], []⟩ < M 1 ⟨[], [l0]⟩ ⟨[v0], []⟩)))))))) ∧ (decide ((v0 : Int) < (List.length l0 : Int)) = false →
     ((decide ((0 : Int) ≤ ((List.length l0 : Int) - 1)) = true ∧ decide ((((List.length l0 : Int) - 1) : Int) < (List.length l0 : Int)) = true) ∧ ((decide ((0 : Int) ≤ ((List.length l0 : Int) - 1)) = true ∧ decide ((((List.length l0 : Int) - 1) : Int) < (List.length l0 : Int)) = true) →
     ((decide (((0 + ((List.length l0 : Int) - 1)) : Int) < (List.length l0 : Int)) = true) ∧ ((decide (((0 + ((List.length l0 : Int) - 1)) : Int) < (List.length l0 : Int)) = true) →
     ∀ v1 : Int, v1 = (List.getD l0 (Int.toNat (0 + ((List.length l0 : Int) - 1))) 0) →
     post [(if (!decide ((v1 : Int) = 0)) = true then 1 else 0)] [])))))))))) ∧ (decide ((2 : Int) ≤ (List.length l0 : Int)) = false →
  post [0] []))
theorem q15 (T : Tab) (I : Nat → Env → Env → Prop) (M : Nat → Env → Env → Nat) (pre : Nat → List Int → List (List Int) → Prop) (post : List Int → List (List Int) → Prop) (l0 : List Int) : t15.plain T (presG pre I M) post ⟨[], [l0]⟩ = p15 T I M pre post l0 := by kernel_rfl
theorem k15 (T : Tab) (I : Nat → Env → Env → Prop) (M : Nat → Env → Env → Nat) (pre : Nat → List Int → List (List Int) → Prop) (hs : SubSig T c15.sigs) (ht : TotG pre c15.sigs) (hg : T.sig 15 = some s15) (hC : CtAll Try.prog T.fns (presQ pre) c15.sigs) (hk : CpAll Try.prog c15.cps) (hi : ∀ xs ls, allHas (parIvs s15.params) xs → pre 15 xs ls → allHas iv15 xs)
    (h : ∀ (l0 : List Int), allHas iv15 [] → allL (parLvs s15.params) [l0] → pre 15 [] [l0] → p15 T I M pre (fun ys _ => ys = T.app 15 [] [l0]) l0) : CT Try.prog T.fns (presQ pre) 15 s15 :=
  T.ctg (F := ⟨c15, [(4, ⟨1, [15], [], [16, 17, 18, 4, 19, 20, 21, 2, 22, 27], [⟨(-9223372036854775808), 9223372036854775807⟩], [], []⟩)]⟩) (fuel := 250) vc15 Try.checked.mixed hs ht hg hC hk Try.func15 I M (fun xs ls h1 h2 h3 => ⟨hi xs ls h1 h3, h2⟩) fun xs ls hx hl hp => by
    match xs, ls, hx, hl, hp with
    | [], [l0], hx, hl, hp => rw [q15]; exact h l0 hx hl hp
/-- loop.example/g01242/laws.FnExactValidPoly -/
def s3 : Sig := ⟨[.lst [.i64]], [(false, [.b])], true⟩
noncomputable def c3 : Cfg := ⟨Try.prog, [(13, s13), (15, s15), (16, s16)], [(14, s14, y14)], [], []⟩
def iv3 : List Iv := []
def t3 : VC :=
 (.ite (.lt (.lit 1048576) (.len (.var 0)))
  (.fin (.e (.lit 1) .nil))
  (.need [(.b (.le (.len (.var 0)) (.lit 1099511627776)))]
  (.call 13 (.l (.var 0) .nil) 1
  (.need [(.b (.le (.len (.var 0)) (.lit 1099511627776)))]
  (.call 15 (.l (.var 0) .nil) 1
  (.ite (.not (.beq (.eq (.var 1) (.lit 1)) (.eq (.var 0) (.lit 1))))
   (.fin (.e (.lit 0) .nil))
   (.need [(.b (.le (.len (.var 0)) (.lit 1099511627776)))]
   (.call 16 (.l (.var 0) (.l (.var 0) .nil)) 1
   (.ite (.not (.eq (.var 2) (.lit 1)))
    (.fin (.e (.lit 0) .nil))
    (.fin (.e (.lit 1) .nil)))))))))))
theorem vc3 : vcOfI ⟨c3, []⟩ iv3 (parLvs s3.params) 250 Try.f3 s3 = t3 := by kernel_rfl
set_option linter.unusedVariables false in
def p3 (T : Tab) (I : Nat → Env → Env → Prop) (M : Nat → Env → Env → Nat) (pre : Nat → List Int → List (List Int) → Prop) (post : List Int → List (List Int) → Prop) (l0 : List Int) : Prop :=
 ((decide ((1048576 : Int) < (List.length l0 : Int)) = true →
  post [1] []) ∧ (decide ((1048576 : Int) < (List.length l0 : Int)) = false →
  ((decide (((List.length l0 : Int) : Int) ≤ 1099511627776) = true) ∧ ((decide (((List.length l0 : Int) : Int) ≤ 1099511627776) = true) →
  ∀ v0 : Int, [v0] = T.outL 13 1 [] [l0] →
  ((decide (((List.length l0 : Int) : Int) ≤ 1099511627776) = true) ∧ ((decide (((List.length l0 : Int) : Int) ≤ 1099511627776) = true) →
  ∀ v1 : Int, [v1] = T.outL 15 1 [] [l0] →
  (((!(decide ((v1 : Int) = 1) == decide ((v0 : Int) = 1))) = true →
   post [0] []) ∧ ((!(decide ((v1 : Int) = 1) == decide ((v0 : Int) = 1))) = false →
   ((decide (((List.length l0 : Int) : Int) ≤ 1099511627776) = true) ∧ ((decide (((List.length l0 : Int) : Int) ≤ 1099511627776) = true) →
   ∀ v2 : Int, [v2] = T.outL 16 1 [] [l0, l0] →
   (((!decide ((v2 : Int) = 1)) = true →
    post [0] []) ∧ ((!decide ((v2 : Int) = 1)) = false →
    post [1] []))))))))))))
theorem q3 (T : Tab) (I : Nat → Env → Env → Prop) (M : Nat → Env → Env → Nat) (pre : Nat → List Int → List (List Int) → Prop) (post : List Int → List (List Int) → Prop) (l0 : List Int) : t3.plain T (presG pre I M) post ⟨[], [l0]⟩ = p3 T I M pre post l0 := by kernel_rfl
theorem k3 (T : Tab) (I : Nat → Env → Env → Prop) (M : Nat → Env → Env → Nat) (pre : Nat → List Int → List (List Int) → Prop) (hs : SubSig T c3.sigs) (ht : TotG pre c3.sigs) (hg : T.sig 3 = some s3) (hC : CtAll Try.prog T.fns (presQ pre) c3.sigs) (hk : CpAll Try.prog c3.cps) (hi : ∀ xs ls, allHas (parIvs s3.params) xs → pre 3 xs ls → allHas iv3 xs)
    (h : ∀ (l0 : List Int), allHas iv3 [] → allL (parLvs s3.params) [l0] → pre 3 [] [l0] → p3 T I M pre (fun ys _ => ys = T.app 3 [] [l0]) l0) : CT Try.prog T.fns (presQ pre) 3 s3 :=
  T.ctg (F := ⟨c3, []⟩) (fuel := 250) vc3 Try.checked.mixed hs ht hg hC hk Try.func3 I M (fun xs ls h1 h2 h3 => ⟨hi xs ls h1 h3, h2⟩) fun xs ls hx hl hp => by
    match xs, ls, hx, hl, hp with
    | [], [l0], hx, hl, hp => rw [q3]; exact h l0 hx hl hp
end Go.Proofs.Ytfpodondpanmaaa.Sx
