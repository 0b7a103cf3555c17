import Derived.Test.YtfpodondpanmaaaSxY
import Derived.Test.YtfpodondpanmaaaA1
import Derived.Test.YtfpodondpanmaaaB1
import Derived.Test.YtfpodondpanmaaaChecked
import Derived.KernelRfl
namespace Go.Proofs.Ytfpodondpanmaaa.Sx
open Go Go.RowKit
/-- loop.example/g01242/spec.l05Abs -/
def s64 : Sig := ⟨[.val false [.i .i64]], [(false, [.i .i64])], true⟩
noncomputable def c64 : Cfg := ⟨Try.prog, [], [], [], []⟩
def iv64 : List Iv := [⟨(-9223372036854775808), 9223372036854775807⟩]
def t64 : VC :=
 (.ite (.lt (.var 0) (.lit 0))
  (.bind (.wrap .i64 (.sub (.lit 0) (.var 0)))
  (.fin (.e (.var 1) .nil)))
  (.fin (.e (.var 0) .nil)))
theorem vc64 : vcOfI ⟨c64, []⟩ iv64 (parLvs s64.params) 250 Try.f64 s64 = t64 := by kernel_rfl
set_option linter.unusedVariables false in
def p64 (T : Tab) (I : Nat → Env → Env → Prop) (M : Nat → Env → Env → Nat) (pre : Nat → List Int → List (List Int) → Prop) (post : List Int → List (List Int) → Prop) (v0 : Int) : Prop :=
 ((decide ((v0 : Int) < 0) = true →
  ∀ v1 : Int, v1 = (IntKind.wrap .i64 (0 - v0)) →
  post [v1] []) ∧ (decide ((v0 : Int) < 0) = false →
  post [v0] []))
theorem q64 (T : Tab) (I : Nat → Env → Env → Prop) (M : Nat → Env → Env → Nat) (pre : Nat → List Int → List (List Int) → Prop) (post : List Int → List (List Int) → Prop) (v0 : Int) : t64.plain T (presG pre I M) post ⟨[v0], []⟩ = p64 T I M pre post v0 := by kernel_rfl
theorem k64 (T : Tab) (I : Nat → Env → Env → Prop) (M : Nat → Env → Env → Nat) (pre : Nat → List Int → List (List Int) → Prop) (hs : SubSig T c64.sigs) (ht : TotG pre c64.sigs) (hg : T.sig 64 = some s64) (hC : CtAll Try.prog T.fns (presQ pre) c64.sigs) (hk : CpAll Try.prog c64.cps) (hi : ∀ xs ls, allHas (parIvs s64.params) xs → pre 64 xs ls → allHas iv64 xs)
    (h : ∀ (v0 : Int), allHas iv64 [v0] → allL (parLvs s64.params) [] → pre 64 [v0] [] → p64 T I M pre (fun ys _ => ys = T.app 64 [v0] []) v0) : CT Try.prog T.fns (presQ pre) 64 s64 :=
  T.ctg (F := ⟨c64, []⟩) (fuel := 250) vc64 Try.checked.mixed hs ht hg hC hk Try.func64 I M (fun xs ls h1 h2 h3 => ⟨hi xs ls h1 h3, h2⟩) fun xs ls hx hl hp => by
    match xs, ls, hx, hl, hp with
    | [v0], [], hx, hl, hp => rw [q64]; exact h v0 hx hl hp
/-- loop.example/g01242/spec.l00Max -/
def s63 : Sig := ⟨[.val false [.i .i64], .val false [.i .i64]], [(false, [.i .i64])], true⟩
noncomputable def c63 : Cfg := ⟨Try.prog, [], [], [], []⟩
def iv63 : List Iv := [⟨(-9223372036854775808), 9223372036854775807⟩, ⟨(-9223372036854775808), 9223372036854775807⟩]
def t63 : VC :=
 (.ite (.lt (.var 1) (.var 0))
  (.fin (.e (.var 0) .nil))
  (.fin (.e (.var 1) .nil)))
theorem vc63 : vcOfI ⟨c63, []⟩ iv63 (parLvs s63.params) 250 Try.f63 s63 = t63 := by kernel_rfl
set_option linter.unusedVariables false in
def p63 (T : Tab) (I : Nat → Env → Env → Prop) (M : Nat → Env → Env → Nat) (pre : Nat → List Int → List (List Int) → Prop) (post : List Int → List (List Int) → Prop) (v0 v1 : Int) : Prop :=
 ((decide ((v1 : Int) < v0) = true →
  post [v0] []) ∧ (decide ((v1 : Int) < v0) = false →
  post [v1] []))
theorem q63 (T : Tab) (I : Nat → Env → Env → Prop) (M : Nat → Env → Env → Nat) (pre : Nat → List Int → List (List Int) → Prop) (post : List Int → List (List Int) → Prop) (v0 v1 : Int) : t63.plain T (presG pre I M) post ⟨[v0, v1], []⟩ = p63 T I M pre post v0 v1 := by kernel_rfl
theorem k63 (T : Tab) (I : Nat → Env → Env → Prop) (M : Nat → Env → Env → Nat) (pre : Nat → List Int → List (List Int) → Prop) (hs : SubSig T c63.sigs) (ht : TotG pre c63.sigs) (hg : T.sig 63 = some s63) (hC : CtAll Try.prog T.fns (presQ pre) c63.sigs) (hk : CpAll Try.prog c63.cps) (hi : ∀ xs ls, allHas (parIvs s63.params) xs → pre 63 xs ls → allHas iv63 xs)
    (h : ∀ (v0 v1 : Int), allHas iv63 [v0, v1] → allL (parLvs s63.params) [] → pre 63 [v0, v1] [] → p63 T I M pre (fun ys _ => ys = T.app 63 [v0, v1] []) v0 v1) : CT Try.prog T.fns (presQ pre) 63 s63 :=
  T.ctg (F := ⟨c63, []⟩) (fuel := 250) vc63 Try.checked.mixed hs ht hg hC hk Try.func63 I M (fun xs ls h1 h2 h3 => ⟨hi xs ls h1 h3, h2⟩) fun xs ls hx hl hp => by
    match xs, ls, hx, hl, hp with
    | [v0, v1], [], hx, hl, hp => rw [q63]; exact h v0 v1 hx hl hp
/-- loop.example/g01242/spec.l05Bound -/
def s45 : Sig := ⟨[.lst [.i64]], [(false, [.i .i64])], false⟩
noncomputable def c45 : Cfg := ⟨Try.prog, [(64, s64), (63, s63)], [], [], []⟩
def iv45 : List Iv := []
def t45 : VC :=
 (.loop 1 [(.lit 0), (.lit 0)] [] [⟨(-9223372036854775808), 9223372036854775807⟩, ⟨(-9223372036854775808), 9223372036854775807⟩] []
  (.ite (.lt (.wrap .i64 (.add (.var 1) (.lit 1))) (.len (.var 0)))
   (.need [(.b (.le (.lit 0) (.var 1))), (.b (.lt (.var 1) (.len (.var 0))))]
   (.need [(.b (.lt (.add (.lit 0) (.var 1)) (.len (.var 0))))]
   (.bind (.at (.var 0) (.add (.lit 0) (.var 1)))
   (.call 64 (.e (.var 2) .nil) 1
   (.call 63 (.e (.var 0) (.e (.var 3) .nil)) 1
   (.bind (.wrap .i64 (.add (.var 1) (.lit 1)))
   (.again 1 0 1 [⟨(-9223372036854775808), 9223372036854775807⟩, ⟨(-9223372036854775808), 9223372036854775807⟩] [(.var 4), (.var 5)] [])))))))
   (.loop 2 [(.lit 0)] [] [⟨(-9223372036854775808), 9223372036854775807⟩] []
    (.need [(.b (.le (.lit 0) (.sub (.len (.var 0)) (.lit 1)))), (.b (.lt (.sub (.len (.var 0)) (.lit 1)) (.len (.var 0))))]
    (.need [(.b (.lt (.add (.lit 0) (.sub (.len (.var 0)) (.lit 1))) (.len (.var 0))))]
    (.bind (.at (.var 0) (.add (.lit 0) (.sub (.len (.var 0)) (.lit 1))))
    (.call 64 (.e (.var 3) .nil) 1
    (.ite (.lt (.wrap .i64 (.mul (.var 4) (.wrap .i64 (.sub (.wrap .i64 (.mul (.lit 1) (.pow2 (.ite (.lt (.wrap .u64 (.var 2)) (.lit 64)) (.wrap .u64 (.var 2)) (.lit 64))))) (.lit 1))))) (.var 0))
     (.bind (.wrap .i64 (.add (.var 2) (.lit 1)))
     (.again 2 2 1 [⟨(-9223372036854775808), 9223372036854775807⟩] [(.var 5)] []))
     (.fin (.e (.var 2) .nil))))))))))
theorem vc45 : vcOfI ⟨c45, [(3, ⟨1, [3, 4], [], [6, 7, 8, 9, 10, 13, 14, 15, 16, 17, 18, 19, 11, 12, 24], [⟨(-9223372036854775808), 9223372036854775807⟩, ⟨(-9223372036854775808), 9223372036854775807⟩], [], []⟩), (7, ⟨2, [5], [], [20, 21, 22, 23, 24, 25, 26, 27, 28, 29, 30, 31, 32, 33, 34, 35, 16], [⟨(-9223372036854775808), 9223372036854775807⟩], [], []⟩)]⟩ iv45 (parLvs s45.params) 250 Try.f45 s45 = t45 := by kernel_rfl
set_option linter.unusedVariables false in
def p45 (T : Tab) (I : Nat → Env → Env → Prop) (M : Nat → Env → Env → Nat) (pre : Nat → List Int → List (List Int) → Prop) (post : List Int → List (List Int) → Prop) (l0 : List Int) : Prop :=
 ((allHas [⟨(-9223372036854775808), 9223372036854775807⟩, ⟨(-9223372036854775808), 9223372036854775807⟩] [0, 0] ∧ I 1 ⟨[], [l0]⟩ ⟨[0, 0], []⟩) ∧ ∀ v0 v1 : Int, allHas [⟨(-9223372036854775808), 9223372036854775807⟩, ⟨(-9223372036854775808), 9223372036854775807⟩] [v0, v1] → I 1 ⟨[], [l0]⟩ ⟨[v0, v1], []⟩ →
  ((decide (((IntKind.wrap .i64 (v1 + 1)) : Int) < (List.length l0 : Int)) = true →
   ((decide ((0 : Int) ≤ v1) = true ∧ decide ((v1 : Int) < (List.length l0 : Int)) = true) ∧ ((decide ((0 : Int) ≤ v1) = true ∧ decide ((v1 : Int) < (List.length l0 : Int)) = true) →
   ((decide (((0 + v1) : Int) < (List.length l0 : Int)) = true) ∧ ((decide (((0 + v1) : Int) < (List.length l0 : Int)) = true) →
   ∀ v2 : Int, v2 = (List.getD l0 (Int.toNat (0 + v1)) 0) →
   ∀ v3 : Int, [v3] = T.out 64 1 [v2] →
   ∀ v4 : Int, [v4] = T.out 63 1 [v0, v3] →
   ∀ v5 : Int, v5 = (IntKind.wrap .i64 (v1 + 1)) →
   (allHas [⟨(-9223372036854775808), 9223372036854775807⟩, ⟨(-9223372036854775808), 9223372036854775807⟩] [v4, v5] ∧ I 1 ⟨[], [l0]⟩ ⟨[v4, v5], []⟩ ∧ M 1 ⟨[], [l0]⟩ ⟨[v4, v5], []⟩ < M 1 ⟨[], [l0]⟩ ⟨[v0, v1], []⟩)))))) ∧ (decide (((IntKind.wrap .i64 (v1 + 1)) : Int) < (List.length l0 : Int)) = false →
   ((allHas [⟨(-9223372036854775808), 9223372036854775807⟩] [0] ∧ I 2 ⟨[v0, v1], [l0]⟩ ⟨[0], []⟩) ∧ ∀ v2 : Int, allHas [⟨(-9223372036854775808), 9223372036854775807⟩] [v2] → I 2 ⟨[v0, v1], [l0]⟩ ⟨[v2], []⟩ →
    ((decide ((0 : Int) ≤ ((List.length l0 : Int) - 1)) = true ∧ decide ((((List.length l0 : Int) - 1) : Int) < (List.length l0 : Int)) = true) ∧ ((decide ((0 : Int) ≤ ((List.length l0 : Int) - 1)) = true ∧ decide ((((List.length l0 : Int) - 1) : Int) < (List.length l0 : Int)) = true) →
    ((decide (((0 + ((List.length l0 : Int) - 1)) : Int) < (List.length l0 : Int)) = true) ∧ ((decide (((0 + ((List.length l0 : Int) - 1)) : Int) < (List.length l0 : Int)) = true) →
    ∀ v3 : Int, v3 = (List.getD l0 (Int.toNat (0 + ((List.length l0 : Int) - 1))) 0) →
    ∀ v4 : Int, [v4] = T.out 64 1 [v3] →
    ((decide (((IntKind.wrap .i64 (v4 * (IntKind.wrap .i64 ((IntKind.wrap .i64 (1 * (2 ^ ((if decide (((IntKind.wrap .u64 v2) : Int) < 64) = true then (IntKind.wrap .u64 v2) else 64) : Int).toNat))) - 1)))) : Int) < v0) = true →
     ∀ v5 : Int, v5 = (IntKind.wrap .i64 (v2 + 1)) →
     (allHas [⟨(-9223372036854775808), 9223372036854775807⟩] [v5] ∧ I 2 ⟨[v0, v1], [l0]⟩ ⟨[v5], []⟩ ∧ M 2 ⟨[v0, v1], [l0]⟩ ⟨[v5], []⟩ < M 2 ⟨[v0, v1], [l0]⟩ ⟨[v2], []⟩)) ∧ (decide (((IntKind.wrap .i64 (v4 * (IntKind.wrap .i64 ((IntKind.wrap .i64 (1 * (2 ^ ((if decide (((IntKind.wrap .u64 v2) : Int) < 64) = true then (IntKind.wrap .u64 v2) else 64) : Int).toNat))) - 1)))) : Int) < v0) = false →
     post [v2] []))))))))))
theorem q45 (T : Tab) (I : Nat → Env → Env → Prop) (M : Nat → Env → Env → Nat) (pre : Nat → List Int → List (List Int) → Prop) (post : List Int → List (List Int) → Prop) (l0 : List Int) : t45.plain T (presG pre I M) post ⟨[], [l0]⟩ = p45 T I M pre post l0 := by kernel_rfl
theorem k45 (T : Tab) (I : Nat → Env → Env → Prop) (M : Nat → Env → Env → Nat) (pre : Nat → List Int → List (List Int) → Prop) (hs : SubSig T c45.sigs) (ht : TotG pre c45.sigs) (hg : T.sig 45 = some s45) (hC : CtAll Try.prog T.fns (presQ pre) c45.sigs) (hk : CpAll Try.prog c45.cps) (hi : ∀ xs ls, allHas (parIvs s45.params) xs → pre 45 xs ls → allHas iv45 xs)
    (h : ∀ (l0 : List Int), allHas iv45 [] → allL (parLvs s45.params) [l0] → pre 45 [] [l0] → p45 T I M pre (fun ys _ => ys = T.app 45 [] [l0]) l0) : CT Try.prog T.fns (presQ pre) 45 s45 :=
  T.ctg (F := ⟨c45, [(3, ⟨1, [3, 4], [], [6, 7, 8, 9, 10, 13, 14, 15, 16, 17, 18, 19, 11, 12, 24], [⟨(-9223372036854775808), 9223372036854775807⟩, ⟨(-9223372036854775808), 9223372036854775807⟩], [], []⟩), (7, ⟨2, [5], [], [20, 21, 22, 23, 24, 25, 26, 27, 28, 29, 30, 31, 32, 33, 34, 35, 16], [⟨(-9223372036854775808), 9223372036854775807⟩], [], []⟩)]⟩) (fuel := 250) vc45 Try.checked.mixed hs ht hg hC hk Try.func45 I M (fun xs ls h1 h2 h3 => ⟨hi xs ls h1 h3, h2⟩) fun xs ls hx hl hp => by
    match xs, ls, hx, hl, hp with
    | [], [l0], hx, hl, hp => rw [q45]; exact h l0 hx hl hp
/-- loop.example/g01242/spec.BoundOf -/
def s17 : Sig := ⟨[.lst [.i64]], [(false, [.i .i64]), (false, [.i .i64])], true⟩
noncomputable def c17 : Cfg := ⟨Try.prog, [(43, s43), (45, s45)], [], [], []⟩
def iv17 : List Iv := []
def t17 : VC :=
 (.call 43 (.l (.var 0) .nil) 1
 (.ite (.not (.eq (.var 0) (.lit 1)))
  (.fin (.e (.lit 0) (.e (.lit 1) .nil)))
  (.need [(.pre 45 (.l (.var 0) .nil))]
  (.call 45 (.l (.var 0) .nil) 1
  (.fin (.e (.var 1) (.e (.lit 0) .nil)))))))
theorem vc17 : vcOfI ⟨c17, []⟩ iv17 (parLvs s17.params) 250 Try.f17 s17 = t17 := by kernel_rfl
set_option linter.unusedVariables false in
def p17 (T : Tab) (I : Nat → Env → Env → Prop) (M : Nat → Env → Env → Nat) (pre : Nat → List Int → List (List Int) → Prop) (post : List Int → List (List Int) → Prop) (l0 : List Int) : Prop :=
 ∀ v0 : Int, [v0] = T.outL 43 1 [] [l0] →
 (((!decide ((v0 : Int) = 1)) = true →
  post [0, 1] []) ∧ ((!decide ((v0 : Int) = 1)) = false →
  ((pre 45 [] [l0]) ∧ ((pre 45 [] [l0]) →
  ∀ v1 : Int, [v1] = T.outL 45 1 [] [l0] →
  post [v1, 0] []))))
theorem q17 (T : Tab) (I : Nat → Env → Env → Prop) (M : Nat → Env → Env → Nat) (pre : Nat → List Int → List (List Int) → Prop) (post : List Int → List (List Int) → Prop) (l0 : List Int) : t17.plain T (presG pre I M) post ⟨[], [l0]⟩ = p17 T I M pre post l0 := by kernel_rfl
theorem k17 (T : Tab) (I : Nat → Env → Env → Prop) (M : Nat → Env → Env → Nat) (pre : Nat → List Int → List (List Int) → Prop) (hs : SubSig T c17.sigs) (ht : TotG pre c17.sigs) (hg : T.sig 17 = some s17) (hC : CtAll Try.prog T.fns (presQ pre) c17.sigs) (hk : CpAll Try.prog c17.cps) (hi : ∀ xs ls, allHas (parIvs s17.params) xs → pre 17 xs ls → allHas iv17 xs)
    (h : ∀ (l0 : List Int), allHas iv17 [] → allL (parLvs s17.params) [l0] → pre 17 [] [l0] → p17 T I M pre (fun ys _ => ys = T.app 17 [] [l0]) l0) : CT Try.prog T.fns (presQ pre) 17 s17 :=
  T.ctg (F := ⟨c17, []⟩) (fuel := 250) vc17 Try.checked.mixed hs ht hg hC hk Try.func17 I M (fun xs ls h1 h2 h3 => ⟨hi xs ls h1 h3, h2⟩) fun xs ls hx hl hp => by
    match xs, ls, hx, hl, hp with
    | [], [l0], hx, hl, hp => rw [q17]; exact h l0 hx hl hp
/-- loop.example/g01242/impl.BoundOf -/
def s18 : Sig := ⟨[.lst [.i64]], [(false, [.i .i64]), (false, [.i .i64])], true⟩
noncomputable def c18 : Cfg := ⟨Try.prog, [(15, s15)], [], [], []⟩
def iv18 : List Iv := []
def t18 : VC :=
 (.call 15 (.l (.var 0) .nil) 1
 (.ite (.not (.eq (.var 0) (.lit 1)))
  (.fin (.e (.lit 0) (.e (.lit 1) .nil)))
  (.bind (.sub (.len (.var 0)) (.lit 1))
  (.need [(.b (.le (.lit 0) (.var 1))), (.b (.lt (.var 1) (.len (.var 0)))), (.b (.lt (.add (.lit 0) (.var 1)) (.len (.var 0)))), (.b (.le (.lit 0) (.var 1))), (.b (.lt (.var 1) (.len (.var 0)))), (.b (.lt (.add (.lit 0) (.var 1)) (.len (.var 0))))]
  (.bind (.at (.var 0) (.add (.lit 0) (.var 1)))
  (.bind (.at (.var 0) (.add (.lit 0) (.var 1)))
  (.bind (.ite (.lt (.at (.var 0) (.add (.lit 0) (.var 1))) (.wrap .i64 (.sub (.lit 0) (.at (.var 0) (.add (.lit 0) (.var 1)))))) (.wrap .i64 (.sub (.lit 0) (.at (.var 0) (.add (.lit 0) (.var 1))))) (.at (.var 0) (.add (.lit 0) (.var 1))))
  (.need [(.b (.le (.lit 0) (.var 1))), (.b (.le (.add (.lit 0) (.var 1)) (.len (.var 0))))]
  (.loop 1 [(.lit 0), (.lit 0)] [] [⟨(-9223372036854775808), 9223372036854775807⟩, ⟨(-9223372036854775808), 9223372036854775807⟩] []
   (.ite (.lt (.var 6) (.var 1))
    (.need [(.b (.le (.lit 0) (.var 6))), (.b (.lt (.var 6) (.var 1))), (.b (.lt (.add (.lit 0) (.var 6)) (.len (.var 0))))]
    (.need [(.b (.lt (.add (.lit 0) (.var 6)) (.len (.var 0))))]
    (.bind (.at (.var 0) (.add (.lit 0) (.var 6)))
    (.bind (.ite (.lt (.ite (.lt (.var 5) (.var 7)) (.var 7) (.var 5)) (.wrap .i64 (.sub (.lit 0) (.var 7)))) (.wrap .i64 (.sub (.lit 0) (.var 7))) (.ite (.lt (.var 5) (.var 7)) (.var 7) (.var 5)))
    (.again 1 5 1 [⟨(-9223372036854775808), 9223372036854775807⟩, ⟨(-9223372036854775808), 9223372036854775807⟩] [(.var 8), (.wrap .i64 (.add (.var 6) (.lit 1)))] [])))))
    (.loop 2 [(.lit 0)] [] [⟨(-9223372036854775808), 9223372036854775807⟩] []
     (.need [(.b (.le (.lit 0) (.var 7)))]
     (.ite (.lt (.wrap .i64 (.mul (.var 4) (.wrap .i64 (.sub (.wrap .i64 (.mul (.lit 1) (.pow2 (.ite (.lt (.var 7) (.lit 64)) (.var 7) (.lit 64))))) (.lit 1))))) (.var 5))
      (.bind (.wrap .i64 (.add (.var 7) (.lit 1)))
      (.again 2 7 1 [⟨(-9223372036854775808), 9223372036854775807⟩] [(.var 8)] []))
      (.fin (.e (.var 7) (.e (.lit 0) .nil))))))))))))))))
theorem vc18 : vcOfI ⟨c18, [(6, ⟨1, [6, 30], [], [31, 32, 33, 8, 34, 35, 36, 37, 38, 39, 18, 22], [⟨(-9223372036854775808), 9223372036854775807⟩, ⟨(-9223372036854775808), 9223372036854775807⟩], [], []⟩), (11, ⟨2, [9], [], [40, 41, 42, 43, 44, 45, 46, 47, 48, 18, 22, 32], [⟨(-9223372036854775808), 9223372036854775807⟩], [], []⟩)]⟩ iv18 (parLvs s18.params) 250 Try.f18 s18 = t18 := by kernel_rfl
set_option linter.unusedVariables false in
def p18 (T : Tab) (I : Nat → Env → Env → Prop) (M : Nat → Env → Env → Nat) (pre : Nat → List Int → List (List Int) → Prop) (post : List Int → List (List Int) → Prop) (l0 : List Int) : Prop :=
 ∀ v0 : Int, [v0] = T.outL 15 1 [] [l0] →
 (((!decide ((v0 : Int) = 1)) = true →
  post [0, 1] []) ∧ ((!decide ((v0 : Int) = 1)) = false →
  ∀ v1 : Int, v1 = ((List.length l0 : Int) - 1) →
  ((decide ((0 : Int) ≤ v1) = true ∧ decide ((v1 : Int) < (List.length l0 : Int)) = true ∧ decide (((0 + v1) : Int) < (List.length l0 : Int)) = true ∧ decide ((0 : Int) ≤ v1) = true ∧ decide ((v1 : Int) < (List.length l0 : Int)) = true ∧ decide (((0 + v1) : Int) < (List.length l0 : Int)) = true) ∧ ((decide ((0 : Int) ≤ v1) = true ∧ decide ((v1 : Int) < (List.length l0 : Int)) = true ∧ decide (((0 + v1) : Int) < (List.length l0 : Int)) = true ∧ decide ((0 : Int) ≤ v1) = true ∧ decide ((v1 : Int) < (List.length l0 : Int)) = true ∧ decide (((0 + v1) : Int) < (List.length l0 : Int)) = true) →
  ∀ v2 : Int, v2 = (List.getD l0 (Int.toNat (0 + v1)) 0) →
  ∀ v3 : Int, v3 = (List.getD l0 (Int.toNat (0 + v1)) 0) →
  ∀ v4 : Int, v4 = (if decide (((List.getD l0 (Int.toNat (0 + v1)) 0) : Int) < (IntKind.wrap .i64 (0 - (List.getD l0 (Int.toNat (0 + v1)) 0)))) = true then (IntKind.wrap .i64 (0 - (List.getD l0 (Int.toNat (0 + v1)) 0))) else (List.getD l0 (Int.toNat (0 + v1)) 0)) →
  ((decide ((0 : Int) ≤ v1) = true ∧ decide (((0 + v1) : Int) ≤ (List.length l0 : Int)) = true) ∧ ((decide ((0 : Int) ≤ v1) = true ∧ decide (((0 + v1) : Int) ≤ (List.length l0 : Int)) = true) →
  ((allHas [⟨(-9223372036854775808), 9223372036854775807⟩, ⟨(-9223372036854775808), 9223372036854775807⟩] [0, 0] ∧ I 1 ⟨[v0, v1, v2, v3, v4], [l0]⟩ ⟨[0, 0], []⟩) ∧ ∀ v5 v6 : Int, allHas [⟨(-9223372036854775808), 9223372036854775807⟩, ⟨(-9223372036854775808), 9223372036854775807⟩] [v5, v6] → I 1 ⟨[v0, v1, v2, v3, v4], [l0]⟩ ⟨[v5, v6], []⟩ →
   ((decide ((v6 : Int) < v1) = true →
    ((decide ((0 : Int) ≤ v6) = true ∧ decide ((v6 : Int) < v1) = true ∧ decide (((0 + v6) : Int) < (List.length l0 : Int)) = true) ∧ ((decide ((0 : Int) ≤ v6) = true ∧ decide ((v6 : Int) < v1) = true ∧ decide (((0 + v6) : Int) < (List.length l0 : Int)) = true) →
    ((decide (((0 + v6) : Int) < (List.length l0 : Int)) = true) ∧ ((decide (((0 + v6) : Int) < (List.length l0 : Int)) = true) →
    ∀ v7 : Int, v7 = (List.getD l0 (Int.toNat (0 + v6)) 0) →
    ∀ v8 : Int, v8 = (if decide (((if decide ((v5 : Int) < v7) = true then v7 else v5) : Int) < (IntKind.wrap .i64 (0 - v7))) = true then (IntKind.wrap .i64 (0 - v7)) else (if decide ((v5 : Int) < v7) = true then v7 else v5)) →
    (allHas [⟨(-9223372036854775808), 9223372036854775807⟩, ⟨(-9223372036854775808), 9223372036854775807⟩] [v8, (IntKind.wrap .i64 (v6 + 1))] ∧ I 1 ⟨[v0, v1, v2, v3, v4], [l0]⟩ ⟨[v8, (IntKind.wrap .i64 (v6 + 1))], []⟩ ∧ M 1 ⟨[v0, v1, v2, v3, v4], [l0]⟩ ⟨[v8, (IntKind.wrap .i64 (v6 + 1))], []⟩ < M 1 ⟨[v0, v1, v2, v3, v4], [l0]⟩ ⟨[v5, v6], []⟩)))))) ∧ (decide ((v6 : Int) < v1) = false →
    ((allHas [⟨(-9223372036854775808), 9223372036854775807⟩] [0] ∧ I 2 ⟨[v0, v1, v2, v3, v4, v5, v6], [l0]⟩ ⟨[0], []⟩) ∧ ∀ v7 : Int, allHas [⟨(-9223372036854775808), 9223372036854775807⟩] [v7] → I 2 ⟨[v0, v1, v2, v3, v4, v5, v6], [l0]⟩ ⟨[v7], []⟩ →
     ((decide ((0 : Int) ≤ v7) = true) ∧ ((decide ((0 : Int) ≤ v7) = true) →
     ((decide (((IntKind.wrap .i64 (v4 * (IntKind.wrap .i64 ((IntKind.wrap .i64 (1 * (2 ^ ((if decide ((v7 : Int) < 64) = true then v7 else 64) : Int).toNat))) - 1)))) : Int) < v5) = true →
      ∀ v8 : Int, v8 = (IntKind.wrap .i64 (v7 + 1)) →
      (allHas [⟨(-9223372036854775808), 9223372036854775807⟩] [v8] ∧ I 2 ⟨[v0, v1, v2, v3, v4, v5, v6], [l0]⟩ ⟨[v8], []⟩ ∧ M 2 ⟨[v0, v1, v2, v3, v4, v5, v6], [l0]⟩ ⟨[v8], []⟩ < M 2 ⟨[v0, v1, v2, v3, v4, v5, v6], [l0]⟩ ⟨[v7], []⟩)) ∧ (decide (((IntKind.wrap .i64 (v4 * (IntKind.wrap .i64 ((IntKind.wrap .i64 (1 * (2 ^ ((if decide ((v7 : Int) < 64) = true then v7 else 64) : Int).toNat))) - 1)))) : Int) < v5) = false →
      post [v7, 0] []))))))))))))))
theorem q18 (T : Tab) (I : Nat → Env → Env → Prop) (M : Nat → Env → Env → Nat) (pre : Nat → List Int → List (List Int) → Prop) (post : List Int → List (List Int) → Prop) (l0 : List Int) : t18.plain T (presG pre I M) post ⟨[], [l0]⟩ = p18 T I M pre post l0 := by kernel_rfl
theorem k18 (T : Tab) (I : Nat → Env → Env → Prop) (M : Nat → Env → Env → Nat) (pre : Nat → List Int → List (List Int) → Prop) (hs : SubSig T c18.sigs) (ht : TotG pre c18.sigs) (hg : T.sig 18 = some s18) (hC : CtAll Try.prog T.fns (presQ pre) c18.sigs) (hk : CpAll Try.prog c18.cps) (hi : ∀ xs ls, allHas (parIvs s18.params) xs → pre 18 xs ls → allHas iv18 xs)
    (h : ∀ (l0 : List Int), allHas iv18 [] → allL (parLvs s18.params) [l0] → pre 18 [] [l0] → p18 T I M pre (fun ys _ => ys = T.app 18 [] [l0]) l0) : CT Try.prog T.fns (presQ pre) 18 s18 :=
  T.ctg (F := ⟨c18, [(6, ⟨1, [6, 30], [], [31, 32, 33, 8, 34, 35, 36, 37, 38, 39, 18, 22], [⟨(-9223372036854775808), 9223372036854775807⟩, ⟨(-9223372036854775808), 9223372036854775807⟩], [], []⟩), (11, ⟨2, [9], [], [40, 41, 42, 43, 44, 45, 46, 47, 48, 18, 22, 32], [⟨(-9223372036854775808), 9223372036854775807⟩], [], []⟩)]⟩) (fuel := 250) vc18 Try.checked.mixed hs ht hg hC hk Try.func18 I M (fun xs ls h1 h2 h3 => ⟨hi xs ls h1 h3, h2⟩) fun xs ls hx hl hp => by
    match xs, ls, hx, hl, hp with
    | [], [l0], hx, hl, hp => rw [q18]; exact h l0 hx hl hp
/-- loop.example/g01242/laws.FnExactBoundOf -/
def s4 : Sig := ⟨[.lst [.i64]], [(false, [.b])], true⟩
noncomputable def c4 : Cfg := ⟨Try.prog, [(17, s17), (18, s18), (16, s16)], [(14, s14, y14)], [], []⟩
def iv4 : List Iv := []
def t4 : VC :=
 (.ite (.lt (.lit 1048576) (.len (.var 0)))
  (.fin (.e (.lit 1) .nil))
  (.need [(.b (.le (.len (.var 0)) (.lit 1099511627776)))]
  (.call 17 (.l (.var 0) .nil) 2
  (.need [(.b (.le (.len (.var 0)) (.lit 1099511627776)))]
  (.call 18 (.l (.var 0) .nil) 2
  (.ite (.eq (.var 2) (.var 0))
   (.ite (.not (.eq (.var 3) (.var 1)))
    (.fin (.e (.lit 0) .nil))
    (.need [(.b (.le (.len (.var 0)) (.lit 1099511627776)))]
    (.call 16 (.l (.var 0) (.l (.var 0) .nil)) 1
    (.ite (.not (.eq (.var 4) (.lit 1)))
     (.fin (.e (.lit 0) .nil))
     (.fin (.e (.lit 1) .nil))))))
   (.fin (.e (.lit 0) .nil))))))))
theorem vc4 : vcOfI ⟨c4, []⟩ iv4 (parLvs s4.params) 250 Try.f4 s4 = t4 := by kernel_rfl
set_option linter.unusedVariables false in
def p4 (T : Tab) (I : Nat → Env → Env → Prop) (M : Nat → Env → Env → Nat) (pre : Nat → List Int → List (List Int) → Prop) (post : List Int → List (List Int) → Prop) (l0 : List Int) : Prop :=
 ((decide ((1048576 : Int) < (List.length l0 : Int)) = true →
  post [1] []) ∧ (decide ((1048576 : Int) < (List.length l0 : Int)) = false →
  ((decide (((List.length l0 : Int) : Int) ≤ 1099511627776) = true) ∧ ((decide (((List.length l0 : Int) : Int) ≤ 1099511627776) = true) →
  ∀ v0 v1 : Int, [v0, v1] = T.outL 17 2 [] [l0] →
  ((decide (((List.length l0 : Int) : Int) ≤ 1099511627776) = true) ∧ ((decide (((List.length l0 : Int) : Int) ≤ 1099511627776) = true) →
  ∀ v2 v3 : Int, [v2, v3] = T.outL 18 2 [] [l0] →
  ((decide ((v2 : Int) = v0) = true →
   (((!decide ((v3 : Int) = v1)) = true →
    post [0] []) ∧ ((!decide ((v3 : Int) = v1)) = false →
    ((decide (((List.length l0 : Int) : Int) ≤ 1099511627776) = true) ∧ ((decide (((List.length l0 : Int) : Int) ≤ 1099511627776) = true) →
    ∀ v4 : Int, [v4] = T.outL 16 1 [] [l0, l0] →
    (((!decide ((v4 : Int) = 1)) = true →
     post [0] []) ∧ ((!decide ((v4 : Int) = 1)) = false →
     post [1] []))))))) ∧ (decide ((v2 : Int) = v0) = false →
   post [0] []))))))))
theorem q4 (T : Tab) (I : Nat → Env → Env → Prop) (M : Nat → Env → Env → Nat) (pre : Nat → List Int → List (List Int) → Prop) (post : List Int → List (List Int) → Prop) (l0 : List Int) : t4.plain T (presG pre I M) post ⟨[], [l0]⟩ = p4 T I M pre post l0 := by kernel_rfl
theorem k4 (T : Tab) (I : Nat → Env → Env → Prop) (M : Nat → Env → Env → Nat) (pre : Nat → List Int → List (List Int) → Prop) (hs : SubSig T c4.sigs) (ht : TotG pre c4.sigs) (hg : T.sig 4 = some s4) (hC : CtAll Try.prog T.fns (presQ pre) c4.sigs) (hk : CpAll Try.prog c4.cps) (hi : ∀ xs ls, allHas (parIvs s4.params) xs → pre 4 xs ls → allHas iv4 xs)
    (h : ∀ (l0 : List Int), allHas iv4 [] → allL (parLvs s4.params) [l0] → pre 4 [] [l0] → p4 T I M pre (fun ys _ => ys = T.app 4 [] [l0]) l0) : CT Try.prog T.fns (presQ pre) 4 s4 :=
  T.ctg (F := ⟨c4, []⟩) (fuel := 250) vc4 Try.checked.mixed hs ht hg hC hk Try.func4 I M (fun xs ls h1 h2 h3 => ⟨hi xs ls h1 h3, h2⟩) fun xs ls hx hl hp => by
    match xs, ls, hx, hl, hp with
    | [], [l0], hx, hl, hp => rw [q4]; exact h l0 hx hl hp
end Go.Proofs.Ytfpodondpanmaaa.Sx
