import Derived.Test.YtelfpnkhdaaeoaaDoorSxX
import Derived.Test.YtelfpnkhdaaeoaaDoorSxZ
import Derived.Test.YtelfpnkhdaaeoaaDoorA1
import Derived.Test.YtelfpnkhdaaeoaaDoorChecked
import Derived.KernelRfl
namespace Go.Proofs.YtelfpnkhdaaeoaaDoor.Sx
open Go Go.RowKit
/-- loop.example/g01242/laws.eqInt64S -/
def s7 : Sig := ⟨[.lst [.i64], .lst [.i64]], [(false, [.b])], true⟩
noncomputable def c7 : Cfg := ⟨Tryd.prog, [], [], [], [], [], [], [], 0, []⟩
def iv7 : List Iv := []
def t7 : VC :=
 (.ite (.not (.eq (.len (.var 0)) (.len (.var 1))))
  (.fin (.e (.lit 0) .nil))
  (.loop 1 [(.lit 0)] [] [⟨(-9223372036854775808), 9223372036854775807⟩] []
   (.ite (.lt (.var 0) (.len (.var 0)))
    (.need [(.b (.le (.lit 0) (.var 0))), (.b (.lt (.var 0) (.len (.var 0)))), (.b (.lt (.add (.lit 0) (.var 0)) (.len (.var 0)))), (.b (.le (.lit 0) (.var 0))), (.b (.lt (.var 0) (.len (.var 1)))), (.b (.lt (.add (.lit 0) (.var 0)) (.len (.var 1))))]
    (.bind (.at (.var 0) (.add (.lit 0) (.var 0)))
    (.bind (.at (.var 1) (.add (.lit 0) (.var 0)))
    (.ite (.not (.eq (.at (.var 0) (.add (.lit 0) (.var 0))) (.at (.var 1) (.add (.lit 0) (.var 0)))))
     (.fin (.e (.lit 0) .nil))
     (.bind (.wrap .i64 (.add (.var 0) (.lit 1)))
     (.again 1 0 2 [⟨(-9223372036854775808), 9223372036854775807⟩] [(.var 3)] []))))))
    (.fin (.e (.lit 1) .nil)))))
theorem vc7 : vcOfI ⟨c7, [(4, ⟨1, [5], [], [11, 12, 13, 14, 17, 18, 19, 20, 21, 22, 23, 24, 25, 4, 15, 16], [⟨(-9223372036854775808), 9223372036854775807⟩], [], []⟩)]⟩ iv7 (parLvs s7.params) 250 Tryd.f7 s7 = t7 := by kernel_rfl
set_option linter.unusedVariables false in
def p7 (T : Tab) (I : Nat → Env → Env → Prop) (M : Nat → Env → Env → Nat) (pre : Nat → List Int → List (List Int) → Prop) (post : List Int → List (List Int) → Prop) (l0 l1 : List Int) : Prop :=
 (((!decide (((List.length l0 : Int) : Int) = (List.length l1 : Int))) = true →
  post [0] []) ∧ ((!decide (((List.length l0 : Int) : Int) = (List.length l1 : Int))) = false →
  ((allHas [⟨(-9223372036854775808), 9223372036854775807⟩] [0] ∧ I 1 ⟨[], [l0, l1]⟩ ⟨[0], []⟩) ∧ ∀ v0 : Int, allHas [⟨(-9223372036854775808), 9223372036854775807⟩] [v0] → I 1 ⟨[], [l0, l1]⟩ ⟨[v0], []⟩ →
   ((decide ((v0 : Int) < (List.length l0 : Int)) = true →
    ((decide ((0 : Int) ≤ v0) = true ∧ decide ((v0 : Int) < (List.length l0 : Int)) = true ∧ decide (((0 + v0) : Int) < (List.length l0 : Int)) = true ∧ decide ((0 : Int) ≤ v0) = true ∧ decide ((v0 : Int) < (List.length l1 : Int)) = true ∧ decide (((0 + v0) : Int) < (List.length l1 : Int)) = true) ∧ ((decide ((0 : Int) ≤ v0) = true ∧ decide ((v0 : Int) < (List.length l0 : Int)) = true ∧ decide (((0 + v0) : Int) < (List.length l0 : Int)) = true ∧ decide ((0 : Int) ≤ v0) = true ∧ decide ((v0 : Int) < (List.length l1 : Int)) = true ∧ decide (((0 + v0) : Int) < (List.length l1 : Int)) = true) →
    ∀ v1 : Int, v1 = (List.getD l0 (Int.toNat (0 + v0)) 0) →
    ∀ v2 : Int, v2 = (List.getD l1 (Int.toNat (0 + v0)) 0) →
    (((!decide (((List.getD l0 (Int.toNat (0 + v0)) 0) : Int) = (List.getD l1 (Int.toNat (0 + v0)) 0))) = true →
     post [0] []) ∧ ((!decide (((List.getD l0 (Int.toNat (0 + v0)) 0) : Int) = (List.getD l1 (Int.toNat (0 + v0)) 0))) = false →
     ∀ v3 : Int, v3 = (IntKind.wrap .i64 (v0 + 1)) →
     (allHas [⟨(-9223372036854775808), 9223372036854775807⟩] [v3] ∧ I 1 ⟨[], [l0, l1]⟩ ⟨[v3], []⟩ ∧ M 1 ⟨[], [l0, l1]⟩ ⟨[v3], []⟩ < M 1 ⟨[], [l0, l1]⟩ ⟨[v0], []⟩)))))) ∧ (decide ((v0 : Int) < (List.length l0 : Int)) = false →
    post [1] [])))))
theorem q7 (T : Tab) (I : Nat → Env → Env → Prop) (M : Nat → Env → Env → Nat) (pre : Nat → List Int → List (List Int) → Prop) (post : List Int → List (List Int) → Prop) (l0 l1 : List Int) : t7.plain T (presG pre I M) post ⟨[], [l0, l1]⟩ = p7 T I M pre post l0 l1 := by kernel_rfl
theorem k7 (T : Tab) (I : Nat → Env → Env → Prop) (M : Nat → Env → Env → Nat) (pre : Nat → List Int → List (List Int) → Prop) (hs : SubSig T c7.sigs) (ht : TotG pre c7.sigs) (hg : T.sig 7 = some s7) (hC : CtAll Tryd.prog T.fns (presQ pre) c7.pfs c7.pty c7.cls c7.sigs) (hk : CpAll Tryd.prog c7.cps) (hi : ∀ xs ls, allHas (parIvs s7.params) xs → pre 7 xs ls → allHas iv7 xs)
    (h : ∀ (l0 l1 : List Int), allHas iv7 [] → allL (parLvs s7.params) [l0, l1] → pre 7 [] [l0, l1] → p7 T I M pre (fun ys _ => ys = T.app 7 [] [l0, l1]) l0 l1) : CT Tryd.prog T.fns (presQ pre) 7 s7 :=
  T.ctg (F := ⟨c7, [(4, ⟨1, [5], [], [11, 12, 13, 14, 17, 18, 19, 20, 21, 22, 23, 24, 25, 4, 15, 16], [⟨(-9223372036854775808), 9223372036854775807⟩], [], []⟩)]⟩) (fuel := 250) vc7 Tryd.checked.mixed hs ht hg hC hk Tryd.func7 I M (fun xs ls h1 h2 h3 => ⟨hi xs ls h1 h3, h2⟩) fun xs ls hx hl hp => by
    match xs, ls, hx, hl, hp with
    | [], [l0, l1], hx, hl, hp => rw [q7]; exact h l0 l1 hx hl hp
/-- loop.example/g01242/spec.l00In -/
def s13 : Sig := ⟨[.val false [.i .i64], .val false [.i .i64], .val false [.i .i64]], [(false, [.b])], true⟩
noncomputable def c13 : Cfg := ⟨Tryd.prog, [], [], [], [], [], [], [], 0, []⟩
def iv13 : List Iv := [⟨(-9223372036854775808), 9223372036854775807⟩, ⟨(-9223372036854775808), 9223372036854775807⟩, ⟨(-9223372036854775808), 9223372036854775807⟩]
def t13 : VC :=
 (.ite (.le (.var 1) (.var 0))
  (.fin (.e (.ite (.le (.var 0) (.var 2)) (.lit 1) (.lit 0)) .nil))
  (.fin (.e (.lit 0) .nil)))
theorem vc13 : vcOfI ⟨c13, []⟩ iv13 (parLvs s13.params) 250 Tryd.f13 s13 = t13 := by kernel_rfl
set_option linter.unusedVariables false in
def p13 (T : Tab) (I : Nat → Env → Env → Prop) (M : Nat → Env → Env → Nat) (pre : Nat → List Int → List (List Int) → Prop) (post : List Int → List (List Int) → Prop) (v0 v1 v2 : Int) : Prop :=
 ((decide ((v1 : Int) ≤ v0) = true →
  post [(if decide ((v0 : Int) ≤ v2) = true then 1 else 0)] []) ∧ (decide ((v1 : Int) ≤ v0) = false →
  post [0] []))
theorem q13 (T : Tab) (I : Nat → Env → Env → Prop) (M : Nat → Env → Env → Nat) (pre : Nat → List Int → List (List Int) → Prop) (post : List Int → List (List Int) → Prop) (v0 v1 v2 : Int) : t13.plain T (presG pre I M) post ⟨[v0, v1, v2], []⟩ = p13 T I M pre post v0 v1 v2 := by kernel_rfl
theorem k13 (T : Tab) (I : Nat → Env → Env → Prop) (M : Nat → Env → Env → Nat) (pre : Nat → List Int → List (List Int) → Prop) (hs : SubSig T c13.sigs) (ht : TotG pre c13.sigs) (hg : T.sig 13 = some s13) (hC : CtAll Tryd.prog T.fns (presQ pre) c13.pfs c13.pty c13.cls c13.sigs) (hk : CpAll Tryd.prog c13.cps) (hi : ∀ xs ls, allHas (parIvs s13.params) xs → pre 13 xs ls → allHas iv13 xs)
    (h : ∀ (v0 v1 v2 : Int), allHas iv13 [v0, v1, v2] → allL (parLvs s13.params) [] → pre 13 [v0, v1, v2] [] → p13 T I M pre (fun ys _ => ys = T.app 13 [v0, v1, v2] []) v0 v1 v2) : CT Tryd.prog T.fns (presQ pre) 13 s13 :=
  T.ctg (F := ⟨c13, []⟩) (fuel := 250) vc13 Tryd.checked.mixed hs ht hg hC hk Tryd.func13 I M (fun xs ls h1 h2 h3 => ⟨hi xs ls h1 h3, h2⟩) fun xs ls hx hl hp => by
    match xs, ls, hx, hl, hp with
    | [v0, v1, v2], [], hx, hl, hp => rw [q13]; exact h v0 v1 v2 hx hl hp
/-- loop.example/g01242/impl.isWithin -/
def s15 : Sig := ⟨[.val false [.i .i64], .val false [.i .i64]], [(false, [.b])], true⟩
noncomputable def c15 : Cfg := ⟨Tryd.prog, [], [], [], [], [], [], [], 0, []⟩
def iv15 : List Iv := [⟨(-9223372036854775808), 9223372036854775807⟩, ⟨(-9223372036854775808), 9223372036854775807⟩]
def t15 : VC :=
 (.ite (.le (.wrap .i64 (.sub (.lit 0) (.var 1))) (.var 0))
  (.fin (.e (.ite (.le (.var 0) (.var 1)) (.lit 1) (.lit 0)) .nil))
  (.fin (.e (.lit 0) .nil)))
theorem vc15 : vcOfI ⟨c15, []⟩ iv15 (parLvs s15.params) 250 Tryd.f15 s15 = t15 := by kernel_rfl
set_option linter.unusedVariables false in
def p15 (T : Tab) (I : Nat → Env → Env → Prop) (M : Nat → Env → Env → Nat) (pre : Nat → List Int → List (List Int) → Prop) (post : List Int → List (List Int) → Prop) (v0 v1 : Int) : Prop :=
 ((decide (((IntKind.wrap .i64 (0 - v1)) : Int) ≤ v0) = true →
  post [(if decide ((v0 : Int) ≤ v1) = true then 1 else 0)] []) ∧ (decide (((IntKind.wrap .i64 (0 - v1)) : Int) ≤ v0) = false →
  post [0] []))
theorem q15 (T : Tab) (I : Nat → Env → Env → Prop) (M : Nat → Env → Env → Nat) (pre : Nat → List Int → List (List Int) → Prop) (post : List Int → List (List Int) → Prop) (v0 v1 : Int) : t15.plain T (presG pre I M) post ⟨[v0, v1], []⟩ = p15 T I M pre post v0 v1 := by kernel_rfl
theorem k15 (T : Tab) (I : Nat → Env → Env → Prop) (M : Nat → Env → Env → Nat) (pre : Nat → List Int → List (List Int) → Prop) (hs : SubSig T c15.sigs) (ht : TotG pre c15.sigs) (hg : T.sig 15 = some s15) (hC : CtAll Tryd.prog T.fns (presQ pre) c15.pfs c15.pty c15.cls c15.sigs) (hk : CpAll Tryd.prog c15.cps) (hi : ∀ xs ls, allHas (parIvs s15.params) xs → pre 15 xs ls → allHas iv15 xs)
    (h : ∀ (v0 v1 : Int), allHas iv15 [v0, v1] → allL (parLvs s15.params) [] → pre 15 [v0, v1] [] → p15 T I M pre (fun ys _ => ys = T.app 15 [v0, v1] []) v0 v1) : CT Tryd.prog T.fns (presQ pre) 15 s15 :=
  T.ctg (F := ⟨c15, []⟩) (fuel := 250) vc15 Tryd.checked.mixed hs ht hg hC hk Tryd.func15 I M (fun xs ls h1 h2 h3 => ⟨hi xs ls h1 h3, h2⟩) fun xs ls hx hl hp => by
    match xs, ls, hx, hl, hp with
    | [v0, v1], [], hx, hl, hp => rw [q15]; exact h v0 v1 hx hl hp
/-- loop.example/g01242/spec.l05Ok -/
def s8 : Sig := ⟨[.lst [.i64]], [(false, [.b])], true⟩
noncomputable def c8 : Cfg := ⟨Tryd.prog, [(13, s13)], [], [], [], [], [], [], 0, []⟩
def iv8 : List Iv := []
def t8 : VC :=
 (.call 13 (.e (.len (.var 0)) (.e (.lit 2) (.e (.lit 9) .nil))) 1
 (.ite (.eq (.var 0) (.lit 1))
  (.need [(.b (.le (.lit 0) (.sub (.len (.var 0)) (.lit 1)))), (.b (.lt (.sub (.len (.var 0)) (.lit 1)) (.len (.var 0))))]
  (.need [(.b (.lt (.add (.lit 0) (.sub (.len (.var 0)) (.lit 1))) (.len (.var 0))))]
  (.bind (.at (.var 0) (.add (.lit 0) (.sub (.len (.var 0)) (.lit 1))))
  (.ite (.eq (.var 1) (.lit 0))
   (.fin (.e (.lit 0) .nil))
   (.loop 1 [(.lit 0)] [] [⟨(-9223372036854775808), 9223372036854775807⟩] []
    (.ite (.lt (.var 2) (.len (.var 0)))
     (.need [(.b (.le (.lit 0) (.var 2))), (.b (.lt (.var 2) (.len (.var 0))))]
     (.need [(.b (.lt (.add (.lit 0) (.var 2)) (.len (.var 0))))]
     (.bind (.at (.var 0) (.add (.lit 0) (.var 2)))
     (.call 13 (.e (.var 3) (.e (.lit (-1000000)) (.e (.lit 1000000) .nil))) 1
     (.ite (.not (.eq (.var 4) (.lit 1)))
      (.fin (.e (.lit 0) .nil))
      (.bind (.wrap .i64 (.add (.var 2) (.lit 1)))
      (.again 1 2 1 [⟨(-9223372036854775808), 9223372036854775807⟩] [(.var 5)] [])))))))
     (.fin (.e (.lit 1) .nil))))))))
  (.fin (.e (.lit 0) .nil))))
theorem vc8 : vcOfI ⟨c8, [(4, ⟨1, [3], [], [17, 18, 19, 20, 23, 24, 25, 26, 27, 28, 2, 21, 22, 13], [⟨(-9223372036854775808), 9223372036854775807⟩], [], []⟩)]⟩ iv8 (parLvs s8.params) 250 Tryd.f8 s8 = t8 := by kernel_rfl
set_option linter.unusedVariables false in
def p8 (T : Tab) (I : Nat → Env → Env → Prop) (M : Nat → Env → Env → Nat) (pre : Nat → List Int → List (List Int) → Prop) (post : List Int → List (List Int) → Prop) (l0 : List Int) : Prop :=
 ∀ v0 : Int, [v0] = T.out 13 1 [(List.length l0 : Int), 2, 9] →
 ((decide ((v0 : Int) = 1) = true →
  ((decide ((0 : Int) ≤ ((List.length l0 : Int) - 1)) = true ∧ decide ((((List.length l0 : Int) - 1) : Int) < (List.length l0 : Int)) = true) ∧ ((decide ((0 : Int) ≤ ((List.length l0 : Int) - 1)) = true ∧ decide ((((List.length l0 : Int) - 1) : Int) < (List.length l0 : Int)) = true) →
  ((decide (((0 + ((List.length l0 : Int) - 1)) : Int) < (List.length l0 : Int)) = true) ∧ ((decide (((0 + ((List.length l0 : Int) - 1)) : Int) < (List.length l0 : Int)) = true) →
  ∀ v1 : Int, v1 = (List.getD l0 (Int.toNat (0 + ((List.length l0 : Int) - 1))) 0) →
  ((decide ((v1 : Int) = 0) = true →
   post [0] []) ∧ (decide ((v1 : Int) = 0) = false →
   ((allHas [⟨(-9223372036854775808), 9223372036854775807⟩] [0] ∧ I 1 ⟨[v0, v1], [l0]⟩ ⟨[0], []⟩) ∧ ∀ v2 : Int, allHas [⟨(-9223372036854775808), 9223372036854775807⟩] [v2] → I 1 ⟨[v0, v1], [l0]⟩ ⟨[v2], []⟩ →
    ((decide ((v2 : Int) < (List.length l0 : Int)) = true →
     ((decide ((0 : Int) ≤ v2) = true ∧ decide ((v2 : Int) < (List.length l0 : Int)) = true) ∧ ((decide ((0 : Int) ≤ v2) = true ∧ decide ((v2 : Int) < (List.length l0 : Int)) = true) →
     ((decide (((0 + v2) : Int) < (List.length l0 : Int)) = true) ∧ ((decide (((0 + v2) : Int) < (List.length l0 : Int)) = true) →
     ∀ v3 : Int, v3 = (List.getD l0 (Int.toNat (0 + v2)) 0) →
     ∀ v4 : Int, [v4] = T.out 13 1 [v3, (-1000000), 1000000] →
     (((!decide ((v4 : Int) = 1)) = true →
      post [0] []) ∧ ((!decide ((v4 : Int) = 1)) = false →
      ∀ v5 : Int, v5 = (IntKind.wrap .i64 (v2 + 1)) →
      (allHas [⟨(-9223372036854775808), 9223372036854775807⟩] [v5] ∧ I 1 ⟨[v0, v1], [l0]⟩ ⟨[v5], []⟩ ∧ M 1 ⟨[v0, v1], [l0]⟩ ⟨[v5], []⟩ < M 1 ⟨[v0, v1], [l0]⟩ ⟨[v2], []⟩)))))))) ∧ (decide ((v2 : Int) < (List.length l0 : Int)) = false →
     post [1] [])))))))))) ∧ (decide ((v0 : Int) = 1) = false →
  post [0] []))
theorem q8 (T : Tab) (I : Nat → Env → Env → Prop) (M : Nat → Env → Env → Nat) (pre : Nat → List Int → List (List Int) → Prop) (post : List Int → List (List Int) → Prop) (l0 : List Int) : t8.plain T (presG pre I M) post ⟨[], [l0]⟩ = p8 T I M pre post l0 := by kernel_rfl
theorem k8 (T : Tab) (I : Nat → Env → Env → Prop) (M : Nat → Env → Env → Nat) (pre : Nat → List Int → List (List Int) → Prop) (hs : SubSig T c8.sigs) (ht : TotG pre c8.sigs) (hg : T.sig 8 = some s8) (hC : CtAll Tryd.prog T.fns (presQ pre) c8.pfs c8.pty c8.cls c8.sigs) (hk : CpAll Tryd.prog c8.cps) (hi : ∀ xs ls, allHas (parIvs s8.params) xs → pre 8 xs ls → allHas iv8 xs)
    (h : ∀ (l0 : List Int), allHas iv8 [] → allL (parLvs s8.params) [l0] → pre 8 [] [l0] → p8 T I M pre (fun ys _ => ys = T.app 8 [] [l0]) l0) : CT Tryd.prog T.fns (presQ pre) 8 s8 :=
  T.ctg (F := ⟨c8, [(4, ⟨1, [3], [], [17, 18, 19, 20, 23, 24, 25, 26, 27, 28, 2, 21, 22, 13], [⟨(-9223372036854775808), 9223372036854775807⟩], [], []⟩)]⟩) (fuel := 250) vc8 Tryd.checked.mixed hs ht hg hC hk Tryd.func8 I M (fun xs ls h1 h2 h3 => ⟨hi xs ls h1 h3, h2⟩) fun xs ls hx hl hp => by
    match xs, ls, hx, hl, hp with
    | [], [l0], hx, hl, hp => rw [q8]; exact h l0 hx hl hp
/-- loop.example/g01242/impl.ValidPoly -/
def s10 : Sig := ⟨[.lst [.i64]], [(false, [.b])], true⟩
noncomputable def c10 : Cfg := ⟨Tryd.prog, [(15, s15)], [], [], [], [], [], [], 0, []⟩
def iv10 : List Iv := []
def t10 : VC :=
 (.ite (.le (.lit 2) (.len (.var 0)))
  (.ite (.lt (.lit 9) (.len (.var 0)))
   (.fin (.e (.lit 0) .nil))
   (.loop 1 [(.lit 0)] [] [⟨(-9223372036854775808), 9223372036854775807⟩] []
    (.ite (.lt (.var 0) (.len (.var 0)))
     (.need [(.b (.le (.lit 0) (.var 0))), (.b (.lt (.var 0) (.len (.var 0))))]
     (.need [(.b (.lt (.add (.lit 0) (.var 0)) (.len (.var 0))))]
     (.bind (.at (.var 0) (.add (.lit 0) (.var 0)))
     (.call 15 (.e (.var 1) (.e (.lit 1000000) .nil)) 1
     (.ite (.not (.eq (.var 2) (.lit 1)))
      (.fin (.e (.lit 0) .nil))
      (.again 1 0 1 [⟨(-9223372036854775808), 9223372036854775807⟩] [(.wrap .i64 (.add (.var 0) (.lit 1)))] []))))))
     (.need [(.b (.le (.lit 0) (.sub (.len (.var 0)) (.lit 1)))), (.b (.lt (.sub (.len (.var 0)) (.lit 1)) (.len (.var 0))))]
     (.need [(.b (.lt (.add (.lit 0) (.sub (.len (.var 0)) (.lit 1))) (.len (.var 0))))]
     (.bind (.at (.var 0) (.add (.lit 0) (.sub (.len (.var 0)) (.lit 1))))
     (.fin (.e (.ite (.not (.eq (.var 1) (.lit 0))) (.lit 1) (.lit 0)) .nil))))))))
  (.fin (.e (.lit 0) .nil)))
theorem vc10 : vcOfI ⟨c10, [(4, ⟨1, [15], [], [16, 17, 18, 4, 19, 20, 21, 2, 22, 27], [⟨(-9223372036854775808), 9223372036854775807⟩], [], []⟩)]⟩ iv10 (parLvs s10.params) 250 Tryd.f10 s10 = t10 := by kernel_rfl
set_option linter.unusedVariables false in
def p10 (T : Tab) (I : Nat → Env → Env → Prop) (M : Nat → Env → Env → Nat) (pre : Nat → List Int → List (List Int) → Prop) (post : List Int → List (List Int) → Prop) (l0 : List Int) : Prop :=
 ((decide ((2 : Int) ≤ (List.length l0 : Int)) = true →
  ((decide ((9 : Int) < (List.length l0 : Int)) = true →
   post [0] []) ∧ (decide ((9 : Int) < (List.length l0 : Int)) = false →
   ((allHas [⟨(-9223372036854775808), 9223372036854775807⟩] [0] ∧ I 1 ⟨[], [l0]⟩ ⟨[0], []⟩) ∧ ∀ v0 : Int, allHas [⟨(-9223372036854775808), 9223372036854775807⟩] [v0] → I 1 ⟨[], [l0]⟩ ⟨[v0], []⟩ →
    ((decide ((v0 : Int) < (List.length l0 : Int)) = true →
     ((decide ((0 : Int) ≤ v0) = true ∧ decide ((v0 : Int) < (List.length l0 : Int)) = true) ∧ ((decide ((0 : Int) ≤ v0) = true ∧ decide ((v0 : Int) < (List.length l0 : Int)) = true) →
     ((decide (((0 + v0) : Int) < (List.length l0 : Int)) = true) ∧ ((decide (((0 + v0) : Int) < (List.length l0 : Int)) = true) →
     ∀ v1 : Int, v1 = (List.getD l0 (Int.toNat (0 + v0)) 0) →
     ∀ v2 : Int, [v2] = T.out 15 1 [v1, 1000000] →
     (((!decide ((v2 : Int) = 1)) = true →
      post [0] []) ∧ ((!decide ((v2 : Int) = 1)) = false →
      (allHas [⟨(-9223372036854775808), 9223372036854775807⟩] [(IntKind.wrap .i64 (v0 + 1))] ∧ I 1 ⟨[], [l0]⟩ ⟨[(IntKind.wrap .i64 (v0 + 1))], []⟩ ∧ M 1 ⟨[], [l0]⟩ ⟨[(IntKind.wrap .i64 (v0 + 1))], []⟩ < M 1 ⟨[], [l0]⟩ ⟨[v0], []⟩)))))))) ∧ (decide ((v0 : Int) < (List.length l0 : Int)) = false →
     ((decide ((0 : Int) ≤ ((List.length l0 : Int) - 1)) = true ∧ decide ((((List.length l0 : Int) - 1) : Int) < (List.length l0 : Int)) = true) ∧ ((decide ((0 : Int) ≤ ((List.length l0 : Int) - 1)) = true ∧ decide ((((List.length l0 : Int) - 1) : Int) < (List.length l0 : Int)) = true) →
     ((decide (((0 + ((List.length l0 : Int) - 1)) : Int) < (List.length l0 : Int)) = true) ∧ ((decide (((0 + ((List.length l0 : Int) - 1)) : Int) < (List.length l0 : Int)) = true) →
     ∀ v1 : Int, v1 = (List.getD l0 (Int.toNat (0 + ((List.length l0 : Int) - 1))) 0) →
     post [(if (!decide ((v1 : Int) = 0)) = true then 1 else 0)] [])))))))))) ∧ (decide ((2 : Int) ≤ (List.length l0 : Int)) = false →
  post [0] []))
theorem q10 (T : Tab) (I : Nat → Env → Env → Prop) (M : Nat → Env → Env → Nat) (pre : Nat → List Int → List (List Int) → Prop) (post : List Int → List (List Int) → Prop) (l0 : List Int) : t10.plain T (presG pre I M) post ⟨[], [l0]⟩ = p10 T I M pre post l0 := by kernel_rfl
theorem k10 (T : Tab) (I : Nat → Env → Env → Prop) (M : Nat → Env → Env → Nat) (pre : Nat → List Int → List (List Int) → Prop) (hs : SubSig T c10.sigs) (ht : TotG pre c10.sigs) (hg : T.sig 10 = some s10) (hC : CtAll Tryd.prog T.fns (presQ pre) c10.pfs c10.pty c10.cls c10.sigs) (hk : CpAll Tryd.prog c10.cps) (hi : ∀ xs ls, allHas (parIvs s10.params) xs → pre 10 xs ls → allHas iv10 xs)
    (h : ∀ (l0 : List Int), allHas iv10 [] → allL (parLvs s10.params) [l0] → pre 10 [] [l0] → p10 T I M pre (fun ys _ => ys = T.app 10 [] [l0]) l0) : CT Tryd.prog T.fns (presQ pre) 10 s10 :=
  T.ctg (F := ⟨c10, [(4, ⟨1, [15], [], [16, 17, 18, 4, 19, 20, 21, 2, 22, 27], [⟨(-9223372036854775808), 9223372036854775807⟩], [], []⟩)]⟩) (fuel := 250) vc10 Tryd.checked.mixed hs ht hg hC hk Tryd.func10 I M (fun xs ls h1 h2 h3 => ⟨hi xs ls h1 h3, h2⟩) fun xs ls hx hl hp => by
    match xs, ls, hx, hl, hp with
    | [], [l0], hx, hl, hp => rw [q10]; exact h l0 hx hl hp
end Go.Proofs.YtelfpnkhdaaeoaaDoor.Sx
