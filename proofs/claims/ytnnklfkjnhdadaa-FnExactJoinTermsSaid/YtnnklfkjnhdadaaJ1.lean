import Derived.Test.YtnnklfkjnhdadaaSxX
import Derived.Test.YtnnklfkjnhdadaaSxZ
import Derived.Test.YtnnklfkjnhdadaaA1
import Derived.Test.YtnnklfkjnhdadaaChecked
import Derived.KernelRfl
namespace Go.Proofs.Ytnnklfkjnhdadaa.Sx
open Go Go.RowKit
/-- slices.Clone[[]loop.example/g01242/impl.Node,loop.example/g01242/impl.Node] -/
def s19 : LSig := ⟨[.lst [.i8, .i16, .i16, .i64, .i64]], [.l false [[.i8, .i16, .i16, .i64, .i64]] [36]], false, true⟩
noncomputable def c19 : Cfg := ⟨Try.prog, [], [], [], [], [], [], [], 0, []⟩
def iv19 : List Iv := []
def t19 : VC :=
 (.need [(.b (.lt (.lit 0) (.len (.var 0))))]
 (.need [(.b (.lt (.lit 0) (.len (.var 0)))), (.b (.le (.len (.var 0)) (.lit 1099511627776)))]
 (.need [(.b (.eq (.div (.len (.var 0)) (.lit 5)) (.div (.len (.var 0)) (.lit 5)))), (.b (.le (.len (.var 0)) (.lit 1099511627776)))]
 (.fin (.e (.lit 0) (.l (.var 0) .nil))))))
theorem vc19 : vcLf ⟨c19, []⟩ iv19 (parLvs s19.params) 250 Try.f19 s19 = t19 := by kernel_rfl
set_option linter.unusedVariables false in
def p19 (T : Tab) (I : Nat → Env → Env → Prop) (M : Nat → Env → Env → Nat) (pre : Nat → List Int → List (List Int) → Prop) (post : List Int → List (List Int) → Prop) (l0 : List Int) : Prop :=
 ((decide ((0 : Int) < (List.length l0 : Int)) = true) ∧ ((decide ((0 : Int) < (List.length l0 : Int)) = true) →
 ((decide ((0 : Int) < (List.length l0 : Int)) = true ∧ decide (((List.length l0 : Int) : Int) ≤ 1099511627776) = true) ∧ ((decide ((0 : Int) < (List.length l0 : Int)) = true ∧ decide (((List.length l0 : Int) : Int) ≤ 1099511627776) = true) →
 ((decide ((((List.length l0 : Int) / 5) : Int) = ((List.length l0 : Int) / 5)) = true ∧ decide (((List.length l0 : Int) : Int) ≤ 1099511627776) = true) ∧ ((decide ((((List.length l0 : Int) / 5) : Int) = ((List.length l0 : Int) / 5)) = true ∧ decide (((List.length l0 : Int) : Int) ≤ 1099511627776) = true) →
 post [0] [l0]))))))
theorem q19 (T : Tab) (I : Nat → Env → Env → Prop) (M : Nat → Env → Env → Nat) (pre : Nat → List Int → List (List Int) → Prop) (post : List Int → List (List Int) → Prop) (l0 : List Int) : t19.plain T (presG pre I M) post ⟨[], [l0]⟩ = p19 T I M pre post l0 := by kernel_rfl
theorem k19 (T : Tab) (I : Nat → Env → Env → Prop) (M : Nat → Env → Env → Nat) (pre : Nat → List Int → List (List Int) → Prop) (hs : SubSig T c19.sigs) (ht : TotG pre c19.sigs) (hC : CtAll Try.prog T.fns (presQ pre) c19.pfs c19.pty c19.cls c19.sigs) (hk : CpAll Try.prog c19.cps) (hi : ∀ xs ls, allHas (parIvs s19.params) xs → pre 19 xs ls → allHas iv19 xs)
    (h : ∀ (l0 : List Int), allHas iv19 [] → allL (parLvs s19.params) [l0] → pre 19 [] [l0] → p19 T I M pre (fun ys zs => T.fns 19 [] [l0] = (ys, zs)) l0) : CTL Try.prog T.fns (presQ pre) 19 s19 :=
  T.ctl (F := ⟨c19, []⟩) (fuel := 250) vc19 Try.checked.mixed hs ht hC hk Try.func19 I M (fun xs ls h1 h2 h3 => ⟨hi xs ls h1 h3, h2⟩) fun xs ls hx hl hp => by
    match xs, ls, hx, hl, hp with
    | [], [l0], hx, hl, hp => rw [q19]; exact h l0 hx hl hp
/-- loop.example/g01242/spec.l02Moved -/
def s18 : Sig := ⟨[.val true [.i .i8, .i .i16, .i .i16, .i .i64, .i .i64], .lst [.i64]], [(true, [.i .i8, .i .i16, .i .i16, .i .i64, .i .i64])], false⟩
noncomputable def c18 : Cfg := ⟨Try.prog, [(25, s25), (26, s26)], [], [], [], [], [], [], 0, []⟩
def iv18 : List Iv := [⟨(-128), 127⟩, ⟨(-32768), 32767⟩, ⟨(-32768), 32767⟩, ⟨(-9223372036854775808), 9223372036854775807⟩, ⟨(-9223372036854775808), 9223372036854775807⟩]
def t18 : VC :=
 (.call 25 (.e (.var 0) .nil) 1
 (.ite (.not (.eq (.var 5) (.lit 1)))
  (.call 26 (.e (.var 0) .nil) 1
  (.ite (.eq (.var 6) (.lit 1))
   (.need [(.b (.le (.lit 0) (.var 1))), (.b (.lt (.var 1) (.len (.var 0))))]
   (.need [(.b (.lt (.add (.lit 0) (.var 1)) (.len (.var 0))))]
   (.bind (.at (.var 0) (.add (.lit 0) (.var 1)))
   (.bind (.wrap .i16 (.var 7))
   (.call 26 (.e (.var 0) .nil) 1
   (.ite (.eq (.var 9) (.lit 1))
    (.need [(.b (.le (.lit 0) (.var 2))), (.b (.lt (.var 2) (.len (.var 0))))]
    (.need [(.b (.lt (.add (.lit 0) (.var 2)) (.len (.var 0))))]
    (.bind (.at (.var 0) (.add (.lit 0) (.var 2)))
    (.bind (.wrap .i16 (.var 10))
    (.fin (.e (.var 0) (.e (.var 8) (.e (.var 11) (.e (.var 3) (.e (.var 4) .nil))))))))))
    (.fin (.e (.var 0) (.e (.var 8) (.e (.var 2) (.e (.var 3) (.e (.var 4) .nil))))))))))))
   (.call 26 (.e (.var 0) .nil) 1
   (.ite (.eq (.var 7) (.lit 1))
    (.need [(.b (.le (.lit 0) (.var 2))), (.b (.lt (.var 2) (.len (.var 0))))]
    (.need [(.b (.lt (.add (.lit 0) (.var 2)) (.len (.var 0))))]
    (.bind (.at (.var 0) (.add (.lit 0) (.var 2)))
    (.bind (.wrap .i16 (.var 8))
    (.fin (.e (.var 0) (.e (.var 1) (.e (.var 9) (.e (.var 3) (.e (.var 4) .nil))))))))))
    (.fin (.e (.var 0) (.e (.var 1) (.e (.var 2) (.e (.var 3) (.e (.var 4) .nil))))))))))
  (.need [(.b (.le (.lit 0) (.var 1))), (.b (.lt (.var 1) (.len (.var 0))))]
  (.need [(.b (.lt (.add (.lit 0) (.var 1)) (.len (.var 0))))]
  (.bind (.at (.var 0) (.add (.lit 0) (.var 1)))
  (.bind (.wrap .i16 (.var 6))
  (.call 26 (.e (.var 0) .nil) 1
  (.ite (.eq (.var 8) (.lit 1))
   (.need [(.b (.le (.lit 0) (.var 2))), (.b (.lt (.var 2) (.len (.var 0))))]
   (.need [(.b (.lt (.add (.lit 0) (.var 2)) (.len (.var 0))))]
   (.bind (.at (.var 0) (.add (.lit 0) (.var 2)))
   (.bind (.wrap .i16 (.var 9))
   (.fin (.e (.var 0) (.e (.var 7) (.e (.var 10) (.e (.var 3) (.e (.var 4) .nil))))))))))
   (.fin (.e (.var 0) (.e (.var 7) (.e (.var 2) (.e (.var 3) (.e (.var 4) .nil))))))))))))))
theorem vc18 : vcOfI ⟨c18, []⟩ iv18 (parLvs s18.params) 250 Try.f18 s18 = t18 := by kernel_rfl
set_option linter.unusedVariables false in
def p18 (T : Tab) (I : Nat → Env → Env → Prop) (M : Nat → Env → Env → Nat) (pre : Nat → List Int → List (List Int) → Prop) (post : List Int → List (List Int) → Prop) (v0 v1 v2 v3 v4 : Int) (l0 : List Int) : Prop :=
 ∀ v5 : Int, [v5] = T.out 25 1 [v0] →
 (((!decide ((v5 : Int) = 1)) = true →
  ∀ v6 : Int, [v6] = T.out 26 1 [v0] →
  ((decide ((v6 : Int) = 1) = true →
   ((decide ((0 : Int) ≤ v1) = true ∧ decide ((v1 : Int) < (List.length l0 : Int)) = true) ∧ ((decide ((0 : Int) ≤ v1) = true ∧ decide ((v1 : Int) < (List.length l0 : Int)) = true) →
   ((decide (((0 + v1) : Int) < (List.length l0 : Int)) = true) ∧ ((decide (((0 + v1) : Int) < (List.length l0 : Int)) = true) →
   ∀ v7 : Int, v7 = (List.getD l0 (Int.toNat (0 + v1)) 0) →
   ∀ v8 : Int, v8 = (IntKind.wrap .i16 v7) →
   ∀ v9 : Int, [v9] = T.out 26 1 [v0] →
   ((decide ((v9 : Int) = 1) = true →
    ((decide ((0 : Int) ≤ v2) = true ∧ decide ((v2 : Int) < (List.length l0 : Int)) = true) ∧ ((decide ((0 : Int) ≤ v2) = true ∧ decide ((v2 : Int) < (List.length l0 : Int)) = true) →
    ((decide (((0 + v2) : Int) < (List.length l0 : Int)) = true) ∧ ((decide (((0 + v2) : Int) < (List.length l0 : Int)) = true) →
    ∀ v10 : Int, v10 = (List.getD l0 (Int.toNat (0 + v2)) 0) →
    ∀ v11 : Int, v11 = (IntKind.wrap .i16 v10) →
    post [v0, v8, v11, v3, v4] []))))) ∧ (decide ((v9 : Int) = 1) = false →
    post [v0, v8, v2, v3, v4] []))))))) ∧ (decide ((v6 : Int) = 1) = false →
   ∀ v7 : Int, [v7] = T.out 26 1 [v0] →
   ((decide ((v7 : Int) = 1) = true →
    ((decide ((0 : Int) ≤ v2) = true ∧ decide ((v2 : Int) < (List.length l0 : Int)) = true) ∧ ((decide ((0 : Int) ≤ v2) = true ∧ decide ((v2 : Int) < (List.length l0 : Int)) = true) →
    ((decide (((0 + v2) : Int) < (List.length l0 : Int)) = true) ∧ ((decide (((0 + v2) : Int) < (List.length l0 : Int)) = true) →
    ∀ v8 : Int, v8 = (List.getD l0 (Int.toNat (0 + v2)) 0) →
    ∀ v9 : Int, v9 = (IntKind.wrap .i16 v8) →
    post [v0, v1, v9, v3, v4] []))))) ∧ (decide ((v7 : Int) = 1) = false →
    post [v0, v1, v2, v3, v4] []))))) ∧ ((!decide ((v5 : Int) = 1)) = false →
  ((decide ((0 : Int) ≤ v1) = true ∧ decide ((v1 : Int) < (List.length l0 : Int)) = true) ∧ ((decide ((0 : Int) ≤ v1) = true ∧ decide ((v1 : Int) < (List.length l0 : Int)) = true) →
  ((decide (((0 + v1) : Int) < (List.length l0 : Int)) = true) ∧ ((decide (((0 + v1) : Int) < (List.length l0 : Int)) = true) →
  ∀ v6 : Int, v6 = (List.getD l0 (Int.toNat (0 + v1)) 0) →
  ∀ v7 : Int, v7 = (IntKind.wrap .i16 v6) →
  ∀ v8 : Int, [v8] = T.out 26 1 [v0] →
  ((decide ((v8 : Int) = 1) = true →
   ((decide ((0 : Int) ≤ v2) = true ∧ decide ((v2 : Int) < (List.length l0 : Int)) = true) ∧ ((decide ((0 : Int) ≤ v2) = true ∧ decide ((v2 : Int) < (List.length l0 : Int)) = true) →
   ((decide (((0 + v2) : Int) < (List.length l0 : Int)) = true) ∧ ((decide (((0 + v2) : Int) < (List.length l0 : Int)) = true) →
   ∀ v9 : Int, v9 = (List.getD l0 (Int.toNat (0 + v2)) 0) →
   ∀ v10 : Int, v10 = (IntKind.wrap .i16 v9) →
   post [v0, v7, v10, v3, v4] []))))) ∧ (decide ((v8 : Int) = 1) = false →
   post [v0, v7, v2, v3, v4] []))))))))
theorem q18 (T : Tab) (I : Nat → Env → Env → Prop) (M : Nat → Env → Env → Nat) (pre : Nat → List Int → List (List Int) → Prop) (post : List Int → List (List Int) → Prop) (v0 v1 v2 v3 v4 : Int) (l0 : List Int) : t18.plain T (presG pre I M) post ⟨[v0, v1, v2, v3, v4], [l0]⟩ = p18 T I M pre post v0 v1 v2 v3 v4 l0 := by kernel_rfl
theorem k18 (T : Tab) (I : Nat → Env → Env → Prop) (M : Nat → Env → Env → Nat) (pre : Nat → List Int → List (List Int) → Prop) (hs : SubSig T c18.sigs) (ht : TotG pre c18.sigs) (hg : T.sig 18 = some s18) (hC : CtAll Try.prog T.fns (presQ pre) c18.pfs c18.pty c18.cls c18.sigs) (hk : CpAll Try.prog c18.cps) (hi : ∀ xs ls, allHas (parIvs s18.params) xs → pre 18 xs ls → allHas iv18 xs)
    (h : ∀ (v0 v1 v2 v3 v4 : Int) (l0 : List Int), allHas iv18 [v0, v1, v2, v3, v4] → allL (parLvs s18.params) [l0] → pre 18 [v0, v1, v2, v3, v4] [l0] → p18 T I M pre (fun ys _ => ys = T.app 18 [v0, v1, v2, v3, v4] [l0]) v0 v1 v2 v3 v4 l0) : CT Try.prog T.fns (presQ pre) 18 s18 :=
  T.ctg (F := ⟨c18, []⟩) (fuel := 250) vc18 Try.checked.mixed hs ht hg hC hk Try.func18 I M (fun xs ls h1 h2 h3 => ⟨hi xs ls h1 h3, h2⟩) fun xs ls hx hl hp => by
    match xs, ls, hx, hl, hp with
    | [v0, v1, v2, v3, v4], [l0], hx, hl, hp => rw [q18]; exact h v0 v1 v2 v3 v4 l0 hx hl hp
/-- (loop.example/g01242/impl.Node).movedTo -/
def s20 : Sig := ⟨[.val true [.i .i8, .i .i16, .i .i16, .i .i64, .i .i64], .lst [.i64]], [(true, [.i .i8, .i .i16, .i .i16, .i .i64, .i .i64])], false⟩
noncomputable def c20 : Cfg := ⟨Try.prog, [(27, s27)], [], [], [], [], [], [], 0, []⟩
def iv20 : List Iv := [⟨(-128), 127⟩, ⟨(-32768), 32767⟩, ⟨(-32768), 32767⟩, ⟨(-9223372036854775808), 9223372036854775807⟩, ⟨(-9223372036854775808), 9223372036854775807⟩]
def t20 : VC :=
 (.call 27 (.e (.var 0) .nil) 1
 (.ite (.le (.lit 1) (.var 5))
  (.need [(.b (.le (.lit 0) (.var 1))), (.b (.lt (.var 1) (.len (.var 0))))]
  (.need [(.b (.lt (.add (.lit 0) (.var 1)) (.len (.var 0))))]
  (.bind (.at (.var 0) (.add (.lit 0) (.var 1)))
  (.bind (.wrap .i16 (.var 6))
  (.ite (.eq (.var 5) (.lit 2))
   (.need [(.b (.le (.lit 0) (.var 2))), (.b (.lt (.var 2) (.len (.var 0))))]
   (.need [(.b (.lt (.add (.lit 0) (.var 2)) (.len (.var 0))))]
   (.bind (.at (.var 0) (.add (.lit 0) (.var 2)))
   (.bind (.wrap .i16 (.var 8))
   (.fin (.e (.var 0) (.e (.var 7) (.e (.var 9) (.e (.var 3) (.e (.var 4) .nil))))))))))
   (.fin (.e (.var 0) (.e (.var 7) (.e (.var 2) (.e (.var 3) (.e (.var 4) .nil)))))))))))
  (.fin (.e (.var 0) (.e (.var 1) (.e (.var 2) (.e (.var 3) (.e (.var 4) .nil))))))))
theorem vc20 : vcOfI ⟨c20, []⟩ iv20 (parLvs s20.params) 250 Try.f20 s20 = t20 := by kernel_rfl
set_option linter.unusedVariables false in
def p20 (T : Tab) (I : Nat → Env → Env → Prop) (M : Nat → Env → Env → Nat) (pre : Nat → List Int → List (List Int) → Prop) (post : List Int → List (List Int) → Prop) (v0 v1 v2 v3 v4 : Int) (l0 : List Int) : Prop :=
 ∀ v5 : Int, [v5] = T.out 27 1 [v0] →
 ((decide ((1 : Int) ≤ v5) = true →
  ((decide ((0 : Int) ≤ v1) = true ∧ decide ((v1 : Int) < (List.length l0 : Int)) = true) ∧ ((decide ((0 : Int) ≤ v1) = true ∧ decide ((v1 : Int) < (List.length l0 : Int)) = true) →
  ((decide (((0 + v1) : Int) < (List.length l0 : Int)) = true) ∧ ((decide (((0 + v1) : Int) < (List.length l0 : Int)) = true) →
  ∀ v6 : Int, v6 = (List.getD l0 (Int.toNat (0 + v1)) 0) →
  ∀ v7 : Int, v7 = (IntKind.wrap .i16 v6) →
  ((decide ((v5 : Int) = 2) = true →
   ((decide ((0 : Int) ≤ v2) = true ∧ decide ((v2 : Int) < (List.length l0 : Int)) = true) ∧ ((decide ((0 : Int) ≤ v2) = true ∧ decide ((v2 : Int) < (List.length l0 : Int)) = true) →
   ((decide (((0 + v2) : Int) < (List.length l0 : Int)) = true) ∧ ((decide (((0 + v2) : Int) < (List.length l0 : Int)) = true) →
   ∀ v8 : Int, v8 = (List.getD l0 (Int.toNat (0 + v2)) 0) →
   ∀ v9 : Int, v9 = (IntKind.wrap .i16 v8) →
   post [v0, v7, v9, v3, v4] []))))) ∧ (decide ((v5 : Int) = 2) = false →
   post [v0, v7, v2, v3, v4] []))))))) ∧ (decide ((1 : Int) ≤ v5) = false →
  post [v0, v1, v2, v3, v4] []))
theorem q20 (T : Tab) (I : Nat → Env → Env → Prop) (M : Nat → Env → Env → Nat) (pre : Nat → List Int → List (List Int) → Prop) (post : List Int → List (List Int) → Prop) (v0 v1 v2 v3 v4 : Int) (l0 : List Int) : t20.plain T (presG pre I M) post ⟨[v0, v1, v2, v3, v4], [l0]⟩ = p20 T I M pre post v0 v1 v2 v3 v4 l0 := by kernel_rfl
theorem k20 (T : Tab) (I : Nat → Env → Env → Prop) (M : Nat → Env → Env → Nat) (pre : Nat → List Int → List (List Int) → Prop) (hs : SubSig T c20.sigs) (ht : TotG pre c20.sigs) (hg : T.sig 20 = some s20) (hC : CtAll Try.prog T.fns (presQ pre) c20.pfs c20.pty c20.cls c20.sigs) (hk : CpAll Try.prog c20.cps) (hi : ∀ xs ls, allHas (parIvs s20.params) xs → pre 20 xs ls → allHas iv20 xs)
    (h : ∀ (v0 v1 v2 v3 v4 : Int) (l0 : List Int), allHas iv20 [v0, v1, v2, v3, v4] → allL (parLvs s20.params) [l0] → pre 20 [v0, v1, v2, v3, v4] [l0] → p20 T I M pre (fun ys _ => ys = T.app 20 [v0, v1, v2, v3, v4] [l0]) v0 v1 v2 v3 v4 l0) : CT Try.prog T.fns (presQ pre) 20 s20 :=
  T.ctg (F := ⟨c20, []⟩) (fuel := 250) vc20 Try.checked.mixed hs ht hg hC hk Try.func20 I M (fun xs ls h1 h2 h3 => ⟨hi xs ls h1 h3, h2⟩) fun xs ls hx hl hp => by
    match xs, ls, hx, hl, hp with
    | [v0, v1, v2, v3, v4], [l0], hx, hl, hp => rw [q20]; exact h v0 v1 v2 v3 v4 l0 hx hl hp
/-- loop.example/g01242/spec.JoinTerms -/
def s10 : LSig := ⟨[.lst [.i8, .i16, .i16, .i64, .i64], .lst [.i8, .i16, .i16, .i64, .i64]], [.l false [[.i8, .i16, .i16, .i64, .i64]] [36], .n false [.i .i64]], true, false⟩
noncomputable def c10 : Cfg := ⟨Try.prog, [(14, s14), (18, s18)], [], [], [], [], [], [], 0, []⟩
def iv10 : List Iv := []
def t10 : VC :=
 (.call 14 (.l (.var 0) .nil) 1
 (.ite (.eq (.var 0) (.lit 1))
  (.call 14 (.l (.var 1) .nil) 1
  (.ite (.not (.eq (.var 1) (.lit 1)))
   (.need []
   (.fin (.e (.lit 0) (.e (.lit 1) (.l (.lit []) .nil)))))
   (.ite (.lt (.lit 40) (.wrap .i64 (.add (.div (.len (.var 0)) (.lit 5)) (.div (.len (.var 1)) (.lit 5)))))
    (.need []
    (.fin (.e (.lit 0) (.e (.lit 3) (.l (.lit []) .nil)))))
    (.loop 1 [(.lit 0)] [(.lit [])] [⟨(-9223372036854775808), 9223372036854775807⟩] [(⟨(-9223372036854775808), 9223372036854775807⟩, 9223372036854775807)]
     (.ite (.lt (.var 2) (.div (.len (.var 1)) (.lit 5)))
      (.need [(.b (.le (.len (.cat (.var 2) (.one (.wrap .i64 (.add (.div (.len (.var 0)) (.lit 5)) (.var 2)))))) (.lit 1099511627776)))]
      (.bind (.wrap .i64 (.add (.var 2) (.lit 1)))
      (.need [(.b (.le (.len (.cat (.var 2) (.one (.wrap .i64 (.add (.div (.len (.var 0)) (.lit 5)) (.var 2)))))) (.lit 9223372036854775807)))]
      (.again 1 2 2 [⟨(-9223372036854775808), 9223372036854775807⟩] [(.var 3)] [(.cat (.var 2) (.one (.wrap .i64 (.add (.div (.len (.var 0)) (.lit 5)) (.var 2)))))]))))
      (.need [(.b (.lt (.lit 0) (.len (.var 0)))), (.b (.le (.len (.var 0)) (.lit 1099511627776)))]
      (.need [(.b (.le (.len (.var 0)) (.lit 9223372036854775807)))]
      (.loop 2 [(.lit 0)] [(.var 0)] [⟨(-9223372036854775808), 9223372036854775807⟩] [(⟨(-9223372036854775808), 9223372036854775807⟩, 9223372036854775807)]
       (.ite (.lt (.var 3) (.div (.len (.var 1)) (.lit 5)))
        (.need [(.b (.le (.lit 0) (.var 3))), (.b (.lt (.var 3) (.div (.len (.var 1)) (.lit 5))))]
        (.need [(.b (.lt (.add (.mul (.add (.lit 0) (.var 3)) (.lit 5)) (.lit 4)) (.len (.var 1))))]
        (.bind (.wrap .i8 (.at (.var 1) (.mul (.add (.lit 0) (.var 3)) (.lit 5))))
        (.bind (.wrap .i16 (.at (.var 1) (.add (.mul (.add (.lit 0) (.var 3)) (.lit 5)) (.lit 1))))
        (.bind (.wrap .i16 (.at (.var 1) (.add (.mul (.add (.lit 0) (.var 3)) (.lit 5)) (.lit 2))))
        (.bind (.at (.var 1) (.add (.mul (.add (.lit 0) (.var 3)) (.lit 5)) (.lit 3)))
        (.bind (.at (.var 1) (.add (.mul (.add (.lit 0) (.var 3)) (.lit 5)) (.lit 4)))
        (.need [(.pre 18 (.e (.var 4) (.e (.var 5) (.e (.var 6) (.e (.var 7) (.e (.var 8) (.l (.var 2) .nil)))))))]
        (.call 18 (.e (.var 4) (.e (.var 5) (.e (.var 6) (.e (.var 7) (.e (.var 8) (.l (.var 2) .nil)))))) 5
        (.need [(.b (.le (.len (.cat (.var 3) (.cat (.one (.var 9)) (.cat (.one (.var 10)) (.cat (.one (.var 11)) (.cat (.one (.var 12)) (.one (.var 13)))))))) (.lit 1099511627776)))]
        (.bind (.wrap .i64 (.add (.var 3) (.lit 1)))
        (.need [(.b (.le (.len (.cat (.var 3) (.cat (.one (.var 9)) (.cat (.one (.var 10)) (.cat (.one (.var 11)) (.cat (.one (.var 12)) (.one (.var 13)))))))) (.lit 9223372036854775807)))]
        (.again 2 3 3 [⟨(-9223372036854775808), 9223372036854775807⟩] [(.var 14)] [(.cat (.var 3) (.cat (.one (.var 9)) (.cat (.one (.var 10)) (.cat (.one (.var 11)) (.cat (.one (.var 12)) (.one (.var 13)))))))])))))))))))))
        (.need [(.b (.eq (.div (.len (.var 3)) (.lit 5)) (.div (.len (.var 3)) (.lit 5)))), (.b (.le (.len (.var 3)) (.lit 1099511627776)))]
        (.fin (.e (.lit 0) (.e (.lit 0) (.l (.var 3) .nil))))))))))))))
  (.need []
  (.fin (.e (.lit 0) (.e (.lit 1) (.l (.lit []) .nil)))))))
theorem vc10 : vcLf ⟨c10, [(7, ⟨1, [7], [], [27, 28, 29, 30, 33, 34, 35, 36, 37, 38, 39, 6, 31, 32, 52], [⟨(-9223372036854775808), 9223372036854775807⟩], [2], [2]⟩), (12, ⟨2, [9], [], [43, 44, 45, 46, 49, 50, 51, 52, 53, 54, 55, 56, 57, 8, 47, 48], [⟨(-9223372036854775808), 9223372036854775807⟩], [4], [4]⟩)]⟩ iv10 (parLvs s10.params) 250 Try.f10 s10 = t10 := by kernel_rfl
set_option linter.unusedVariables false in
def p10 (T : Tab) (I : Nat → Env → Env → Prop) (M : Nat → Env → Env → Nat) (pre : Nat → List Int → List (List Int) → Prop) (post : List Int → List (List Int) → Prop) (l0 l1 : List Int) : Prop :=
 ∀ v0 : Int, [v0] = T.outL 14 1 [] [l0] →
 ((decide ((v0 : Int) = 1) = true →
  ∀ v1 : Int, [v1] = T.outL 14 1 [] [l1] →
  (((!decide ((v1 : Int) = 1)) = true →
   ((True) ∧ ((True) →
   post [0, 1] [([] : List Int)]))) ∧ ((!decide ((v1 : Int) = 1)) = false →
   ((decide ((40 : Int) < (IntKind.wrap .i64 (((List.length l0 : Int) / 5) + ((List.length l1 : Int) / 5)))) = true →
    ((True) ∧ ((True) →
    post [0, 3] [([] : List Int)]))) ∧ (decide ((40 : Int) < (IntKind.wrap .i64 (((List.length l0 : Int) / 5) + ((List.length l1 : Int) / 5)))) = false →
    ((allHas [⟨(-9223372036854775808), 9223372036854775807⟩] [0] ∧ I 1 ⟨[v0, v1], [l0, l1]⟩ ⟨[0], [([] : List Int)]⟩) ∧ ∀ v2 : Int, ∀ l2 : List Int, allHas [⟨(-9223372036854775808), 9223372036854775807⟩] [v2] → allL [(⟨(-9223372036854775808), 9223372036854775807⟩, 9223372036854775807)] [l2] → I 1 ⟨[v0, v1], [l0, l1]⟩ ⟨[v2], [l2]⟩ →
     ((decide ((v2 : Int) < ((List.length l1 : Int) / 5)) = true →
      ((decide (((List.length (l2 ++ [(IntKind.wrap .i64 (((List.length l0 : Int) / 5) + v2))]) : Int) : Int) ≤ 1099511627776) = true) ∧ ((decide (((List.length (l2 ++ [(IntKind.wrap .i64 (((List.length l0 : Int) / 5) + v2))]) : Int) : Int) ≤ 1099511627776) = true) →
      ∀ v3 : Int, v3 = (IntKind.wrap .i64 (v2 + 1)) →
      ((decide (((List.length (l2 ++ [(IntKind.wrap .i64 (((List.length l0 : Int) / 5) + v2))]) : Int) : Int) ≤ 9223372036854775807) = true) ∧ ((decide (((List.length (l2 ++ [(IntKind.wrap .i64 (((List.length l0 : Int) / 5) + v2))]) : Int) : Int) ≤ 9223372036854775807) = true) →
      (allHas [⟨(-9223372036854775808), 9223372036854775807⟩] [v3] ∧ I 1 ⟨[v0, v1], [l0, l1]⟩ ⟨[v3], [(l2 ++ [(IntKind.wrap .i64 (((List.length l0 : Int) / 5) + v2))])]⟩ ∧ M 1 ⟨[v0, v1], [l0, l1]⟩ ⟨[v3], [(l2 ++ [(IntKind.wrap .i64 (((List.length l0 : Int) / 5) + v2))])]⟩ < M 1 ⟨[v0, v1], [l0, l1]⟩ ⟨[v2], [l2]⟩)))))) ∧ (decide ((v2 : Int) < ((List.length l1 : Int) / 5)) = false →
      ((decide ((0 : Int) < (List.length l0 : Int)) = true ∧ decide (((List.length l0 : Int) : Int) ≤ 1099511627776) = true) ∧ ((decide ((0 : Int) < (List.length l0 : Int)) = true ∧ decide (((List.length l0 : Int) : Int) ≤ 1099511627776) = true) →
      ((decide (((List.length l0 : Int) : Int) ≤ 9223372036854775807) = true) ∧ ((decide (((List.length l0 : Int) : Int) ≤ 9223372036854775807) = true) →
      ((allHas [⟨(-9223372036854775808), 9223372036854775807⟩] [0] ∧ I 2 ⟨[v0, v1, v2], [l0, l1, l2]⟩ ⟨[0], [l0]⟩) ∧ ∀ v3 : Int, ∀ l3 : List Int, allHas [⟨(-9223372036854775808), 9223372036854775807⟩] [v3] → allL [(⟨(-9223372036854775808), 9223372036854775807⟩, 9223372036854775807)] [l3] → I 2 ⟨[v0, v1, v2], [l0, l1, l2]⟩ ⟨[v3], [l3]⟩ →
       ((decide ((v3 : Int) < ((List.length l1 : Int) / 5)) = true →
        ((decide ((0 : Int) ≤ v3) = true ∧ decide ((v3 : Int) < ((List.length l1 : Int) / 5)) = true) ∧ ((decide ((0 : Int) ≤ v3) = true ∧ decide ((v3 : Int) < ((List.length l1 : Int) / 5)) = true) →
        ((decide (((((0 + v3) * 5) + 4) : Int) < (List.length l1 : Int)) = true) ∧ ((decide (((((0 + v3) * 5) + 4) : Int) < (List.length l1 : Int)) = true) →
        ∀ v4 : Int, v4 = (IntKind.wrap .i8 (List.getD l1 (Int.toNat ((0 + v3) * 5)) 0)) →
        ∀ v5 : Int, v5 = (IntKind.wrap .i16 (List.getD l1 (Int.toNat (((0 + v3) * 5) + 1)) 0)) →
        ∀ v6 : Int, v6 = (IntKind.wrap .i16 (List.getD l1 (Int.toNat (((0 + v3) * 5) + 2)) 0)) →
        ∀ v7 : Int, v7 = (List.getD l1 (Int.toNat (((0 + v3) * 5) + 3)) 0) →
        ∀ v8 : Int, v8 = (List.getD l1 (Int.toNat (((0 + v3) * 5) + 4)) 0) →
        ((pre 18 [v4, v5, v6, v7, v8] [l2]) ∧ ((pre 18 [v4, v5, v6, v7, v8] [l2]) →
        ∀ v9 v10 v11 v12 v13 : Int, [v9, v10, v11, v12, v13] = T.outL 18 5 [v4, v5, v6, v7, v8] [l2] →
        ((decide (((List.length (l3 ++ ([v9] ++ ([v10] ++ ([v11] ++ ([v12] ++ [v13]))))) : Int) : Int) ≤ 1099511627776) = true) ∧ ((decide (((List.length (l3 ++ ([v9] ++ ([v10] ++ ([v11] ++ ([v12] ++ [v13]))))) : Int) : Int) ≤ 1099511627776) = true) →
        ∀ v14 : Int, v14 = (IntKind.wrap .i64 (v3 + 1)) →
        ((decide (((List.length (l3 ++ ([v9] ++ ([v10] ++ ([v11] ++ ([v12] ++ [v13]))))) : Int) : Int) ≤ 9223372036854775807) = true) ∧ ((decide (((List.length (l3 ++ ([v9] ++ ([v10] ++ ([v11] ++ ([v12] ++ [v13]))))) : Int) : Int) ≤ 9223372036854775807) = true) →
        (allHas [⟨(-9223372036854775808), 9223372036854775807⟩] [v14] ∧ I 2 ⟨[v0, v1, v2], [l0, l1, l2]⟩ ⟨[v14], [(l3 ++ ([v9] ++ ([v10] ++ ([v11] ++ ([v12] ++ [v13])))))]⟩ ∧ M 2 ⟨[v0, v1, v2], [l0, l1, l2]⟩ ⟨[v14], [(l3 ++ ([v9] ++ ([v10] ++ ([v11] ++ ([v12] ++ [v13])))))]⟩ < M 2 ⟨[v0, v1, v2], [l0, l1, l2]⟩ ⟨[v3], [l3]⟩)))))))))))) ∧ (decide ((v3 : Int) < ((List.length l1 : Int) / 5)) = false →
        ((decide ((((List.length l3 : Int) / 5) : Int) = ((List.length l3 : Int) / 5)) = true ∧ decide (((List.length l3 : Int) : Int) ≤ 1099511627776) = true) ∧ ((decide ((((List.length l3 : Int) / 5) : Int) = ((List.length l3 : Int) / 5)) = true ∧ decide (((List.length l3 : Int) : Int) ≤ 1099511627776) = true) →
        post [0, 0] [l3]))))))))))))))))) ∧ (decide ((v0 : Int) = 1) = false →
  ((True) ∧ ((True) →
  post [0, 1] [([] : List Int)]))))
theorem q10 (T : Tab) (I : Nat → Env → Env → Prop) (M : Nat → Env → Env → Nat) (pre : Nat → List Int → List (List Int) → Prop) (post : List Int → List (List Int) → Prop) (l0 l1 : List Int) : t10.plain T (presG pre I M) post ⟨[], [l0, l1]⟩ = p10 T I M pre post l0 l1 := by kernel_rfl
theorem k10 (T : Tab) (I : Nat → Env → Env → Prop) (M : Nat → Env → Env → Nat) (pre : Nat → List Int → List (List Int) → Prop) (hs : SubSig T c10.sigs) (ht : TotG pre c10.sigs) (hC : CtAll Try.prog T.fns (presQ pre) c10.pfs c10.pty c10.cls c10.sigs) (hk : CpAll Try.prog c10.cps) (hi : ∀ xs ls, allHas (parIvs s10.params) xs → pre 10 xs ls → allHas iv10 xs)
    (h : ∀ (l0 l1 : List Int), allHas iv10 [] → allL (parLvs s10.params) [l0, l1] → pre 10 [] [l0, l1] → p10 T I M pre (fun ys zs => T.fns 10 [] [l0, l1] = (ys, zs)) l0 l1) : CTL Try.prog T.fns (presQ pre) 10 s10 :=
  T.ctl (F := ⟨c10, [(7, ⟨1, [7], [], [27, 28, 29, 30, 33, 34, 35, 36, 37, 38, 39, 6, 31, 32, 52], [⟨(-9223372036854775808), 9223372036854775807⟩], [2], [2]⟩), (12, ⟨2, [9], [], [43, 44, 45, 46, 49, 50, 51, 52, 53, 54, 55, 56, 57, 8, 47, 48], [⟨(-9223372036854775808), 9223372036854775807⟩], [4], [4]⟩)]⟩) (fuel := 250) vc10 Try.checked.mixed hs ht hC hk Try.func10 I M (fun xs ls h1 h2 h3 => ⟨hi xs ls h1 h3, h2⟩) fun xs ls hx hl hp => by
    match xs, ls, hx, hl, hp with
    | [], [l0, l1], hx, hl, hp => rw [q10]; exact h l0 l1 hx hl hp
/-- loop.example/g01242/impl.JoinTerms -/
def s11 : LSig := ⟨[.lst [.i8, .i16, .i16, .i64, .i64], .lst [.i8, .i16, .i16, .i64, .i64]], [.l false [[.i8, .i16, .i16, .i64, .i64]] [36], .n false [.i .i64]], true, false⟩
noncomputable def c11 : Cfg := ⟨Try.prog, [(8, s8), (20, s20)], [], [(19, s19)], [], [], [], [], 0, []⟩
def iv11 : List Iv := []
def t11 : VC :=
 (.call 8 (.l (.var 0) .nil) 1
 (.ite (.eq (.var 0) (.lit 1))
  (.call 8 (.l (.var 1) .nil) 1
  (.ite (.not (.eq (.var 1) (.lit 1)))
   (.fin (.e (.lit 1) (.e (.lit 1) (.l (.lit []) .nil))))
   (.ite (.lt (.lit 40) (.wrap .i64 (.add (.div (.len (.var 0)) (.lit 5)) (.div (.len (.var 1)) (.lit 5)))))
    (.fin (.e (.lit 1) (.e (.lit 3) (.l (.lit []) .nil))))
    (.need [(.pre 19 (.l (.var 0) .nil))]
    (.calll 19 (.l (.var 0) .nil) [⟨0, 0⟩] [(⟨(-9223372036854775808), 9223372036854775807⟩, 1099511627776)]
    (.need [(.b (.le (.div (.len (.var 1)) (.lit 5)) (.div (.len (.var 1)) (.lit 5)))), (.b (.le (.div (.len (.var 1)) (.lit 5)) (.lit 1099511627776)))]
    (.loop 1 [(.lit 0)] [(.var 2), (.zeros (.mul (.div (.len (.var 1)) (.lit 5)) (.lit 1)))] [⟨(-9223372036854775808), 9223372036854775807⟩] [(⟨(-9223372036854775808), 9223372036854775807⟩, 9223372036854775807), (⟨(-9223372036854775808), 9223372036854775807⟩, 9223372036854775807)]
     (.ite (.lt (.var 3) (.div (.len (.var 1)) (.lit 5)))
      (.need [(.b (.le (.lit 0) (.var 3))), (.b (.lt (.var 3) (.div (.len (.var 1)) (.lit 5))))]
      (.need [(.b (.lt (.add (.mul (.add (.lit 0) (.var 3)) (.lit 5)) (.lit 4)) (.len (.var 1))))]
      (.bind (.wrap .i8 (.at (.var 1) (.mul (.add (.lit 0) (.var 3)) (.lit 5))))
      (.bind (.wrap .i16 (.at (.var 1) (.add (.mul (.add (.lit 0) (.var 3)) (.lit 5)) (.lit 1))))
      (.bind (.wrap .i16 (.at (.var 1) (.add (.mul (.add (.lit 0) (.var 3)) (.lit 5)) (.lit 2))))
      (.bind (.at (.var 1) (.add (.mul (.add (.lit 0) (.var 3)) (.lit 5)) (.lit 3)))
      (.bind (.at (.var 1) (.add (.mul (.add (.lit 0) (.var 3)) (.lit 5)) (.lit 4)))
      (.need [(.b (.eq (.len (.zeros (.mul (.div (.len (.var 1)) (.lit 5)) (.lit 1)))) (.len (.var 4))))]
      (.need [(.b (.le (.lit 0) (.var 3))), (.b (.lt (.var 3) (.len (.var 4))))]
      (.need [(.b (.lt (.add (.lit 0) (.var 3)) (.len (.var 4))))]
      (.need [(.b (.eq (.len (.zeros (.mul (.div (.len (.var 1)) (.lit 5)) (.lit 1)))) (.len (.var 4))))]
      (.need [(.pre 20 (.e (.var 4) (.e (.var 5) (.e (.var 6) (.e (.var 7) (.e (.var 8) (.l (.set (.var 4) (.add (.lit 0) (.var 3)) (.wrap .i64 (.add (.div (.len (.var 0)) (.lit 5)) (.var 3)))) .nil)))))))]
      (.call 20 (.e (.var 4) (.e (.var 5) (.e (.var 6) (.e (.var 7) (.e (.var 8) (.l (.set (.var 4) (.add (.lit 0) (.var 3)) (.wrap .i64 (.add (.div (.len (.var 0)) (.lit 5)) (.var 3)))) .nil)))))) 5
      (.need [(.b (.le (.len (.cat (.var 3) (.cat (.one (.var 9)) (.cat (.one (.var 10)) (.cat (.one (.var 11)) (.cat (.one (.var 12)) (.one (.var 13)))))))) (.lit 1099511627776)))]
      (.need [(.b (.le (.len (.cat (.var 3) (.cat (.one (.var 9)) (.cat (.one (.var 10)) (.cat (.one (.var 11)) (.cat (.one (.var 12)) (.one (.var 13)))))))) (.lit 9223372036854775807)))]
      (.again 1 3 3 [⟨(-9223372036854775808), 9223372036854775807⟩] [(.wrap .i64 (.add (.var 3) (.lit 1)))] [(.cat (.var 3) (.cat (.one (.var 9)) (.cat (.one (.var 10)) (.cat (.one (.var 11)) (.cat (.one (.var 12)) (.one (.var 13))))))), (.set (.var 4) (.add (.lit 0) (.var 3)) (.wrap .i64 (.add (.div (.len (.var 0)) (.lit 5)) (.var 3))))]))))))))))))))))
      (.need [(.b (.eq (.div (.len (.var 3)) (.lit 5)) (.div (.len (.var 3)) (.lit 5)))), (.b (.le (.len (.var 3)) (.lit 1099511627776)))]
      (.fin (.e (.lit 0) (.e (.lit 0) (.l (.var 3) .nil)))))))))))))
  (.fin (.e (.lit 1) (.e (.lit 1) (.l (.lit []) .nil))))))
theorem vc11 : vcLf ⟨c11, [(8, ⟨1, [31], [], [32, 33, 34, 35, 9, 8, 36, 37, 38, 39, 40, 41, 42, 43, 44, 45, 46, 47, 48, 6, 49], [⟨(-9223372036854775808), 9223372036854775807⟩], [2, 3], [2]⟩)]⟩ iv11 (parLvs s11.params) 250 Try.f11 s11 = t11 := by kernel_rfl
set_option linter.unusedVariables false in
def p11 (T : Tab) (I : Nat → Env → Env → Prop) (M : Nat → Env → Env → Nat) (pre : Nat → List Int → List (List Int) → Prop) (post : List Int → List (List Int) → Prop) (l0 l1 : List Int) : Prop :=
 ∀ v0 : Int, [v0] = T.outL 8 1 [] [l0] →
 ((decide ((v0 : Int) = 1) = true →
  ∀ v1 : Int, [v1] = T.outL 8 1 [] [l1] →
  (((!decide ((v1 : Int) = 1)) = true →
   post [1, 1] [([] : List Int)]) ∧ ((!decide ((v1 : Int) = 1)) = false →
   ((decide ((40 : Int) < (IntKind.wrap .i64 (((List.length l0 : Int) / 5) + ((List.length l1 : Int) / 5)))) = true →
    post [1, 3] [([] : List Int)]) ∧ (decide ((40 : Int) < (IntKind.wrap .i64 (((List.length l0 : Int) / 5) + ((List.length l1 : Int) / 5)))) = false →
    ((pre 19 [] [l0]) ∧ ((pre 19 [] [l0]) →
    ∀ v2 : Int, ∀ l2 : List Int, allHas [⟨0, 0⟩] [v2] → allL [(⟨(-9223372036854775808), 9223372036854775807⟩, 1099511627776)] [l2] → ([v2], [l2]) = T.fns 19 [] [l0] →
    ((decide ((((List.length l1 : Int) / 5) : Int) ≤ ((List.length l1 : Int) / 5)) = true ∧ decide ((((List.length l1 : Int) / 5) : Int) ≤ 1099511627776) = true) ∧ ((decide ((((List.length l1 : Int) / 5) : Int) ≤ ((List.length l1 : Int) / 5)) = true ∧ decide ((((List.length l1 : Int) / 5) : Int) ≤ 1099511627776) = true) →
    ((allHas [⟨(-9223372036854775808), 9223372036854775807⟩] [0] ∧ I 1 ⟨[v0, v1, v2], [l0, l1, l2]⟩ ⟨[0], [l2, (List.replicate (Int.toNat (((List.length l1 : Int) / 5) * 1)) (0 : Int))]⟩) ∧ ∀ v3 : Int, ∀ l3 l4 : List Int, allHas [⟨(-9223372036854775808), 9223372036854775807⟩] [v3] → allL [(⟨(-9223372036854775808), 9223372036854775807⟩, 9223372036854775807), (⟨(-9223372036854775808), 9223372036854775807⟩, 9223372036854775807)] [l3, l4] → I 1 ⟨[v0, v1, v2], [l0, l1, l2]⟩ ⟨[v3], [l3, l4]⟩ →
     ((decide ((v3 : Int) < ((List.length l1 : Int) / 5)) = true →
      ((decide ((0 : Int) ≤ v3) = true ∧ decide ((v3 : Int) < ((List.length l1 : Int) / 5)) = true) ∧ ((decide ((0 : Int) ≤ v3) = true ∧ decide ((v3 : Int) < ((List.length l1 : Int) / 5)) = true) →
      ((decide (((((0 + v3) * 5) + 4) : Int) < (List.length l1 : Int)) = true) ∧ ((decide (((((0 + v3) * 5) + 4) : Int) < (List.length l1 : Int)) = true) →
      ∀ v4 : Int, v4 = (IntKind.wrap .i8 (List.getD l1 (Int.toNat ((0 + v3) * 5)) 0)) →
      ∀ v5 : Int, v5 = (IntKind.wrap .i16 (List.getD l1 (Int.toNat (((0 + v3) * 5) + 1)) 0)) →
      ∀ v6 : Int, v6 = (IntKind.wrap .i16 (List.getD l1 (Int.toNat (((0 + v3) * 5) + 2)) 0)) →
      ∀ v7 : Int, v7 = (List.getD l1 (Int.toNat (((0 + v3) * 5) + 3)) 0) →
      ∀ v8 : Int, v8 = (List.getD l1 (Int.toNat (((0 + v3) * 5) + 4)) 0) →
      ((decide (((List.length (List.replicate (Int.toNat (((List.length l1 : Int) / 5) * 1)) (0 : Int)) : Int) : Int) = (List.length l4 : Int)) = true) ∧ ((decide (((List.length (List.replicate (Int.toNat (((List.length l1 : Int) / 5) * 1)) (0 : Int)) : Int) : Int) = (List.length l4 : Int)) = true) →
      ((decide ((0 : Int) ≤ v3) = true ∧ decide ((v3 : Int) < (List.length l4 : Int)) = true) ∧ ((decide ((0 : Int) ≤ v3) = true ∧ decide ((v3 : Int) < (List.length l4 : Int)) = true) →
      ((decide (((0 + v3) : Int) < (List.length l4 : Int)) = true) ∧ ((decide (((0 + v3) : Int) < (List.length l4 : Int)) = true) →
      ((decide (((List.length (List.replicate (Int.toNat (((List.length l1 : Int) / 5) * 1)) (0 : Int)) : Int) : Int) = (List.length l4 : Int)) = true) ∧ ((decide (((List.length (List.replicate (Int.toNat (((List.length l1 : Int) / 5) * 1)) (0 : Int)) : Int) : Int) = (List.length l4 : Int)) = true) →
      ((pre 20 [v4, v5, v6, v7, v8] [(List.set l4 (Int.toNat (0 + v3)) (IntKind.wrap .i64 (((List.length l0 : Int) / 5) + v3)))]) ∧ ((pre 20 [v4, v5, v6, v7, v8] [(List.set l4 (Int.toNat (0 + v3)) (IntKind.wrap .i64 (((List.length l0 : Int) / 5) + v3)))]) →
      ∀ v9 v10 v11 v12 v13 : Int, [v9, v10, v11, v12, v13] = T.outL 20 5 [v4, v5, v6, v7, v8] [(List.set l4 (Int.toNat (0 + v3)) (IntKind.wrap .i64 (((List.length l0 : Int) / 5) + v3)))] →
      ((decide (((List.length (l3 ++ ([v9] ++ ([v10] ++ ([v11] ++ ([v12] ++ [v13]))))) : Int) : Int) ≤ 1099511627776) = true) ∧ ((decide (((List.length (l3 ++ ([v9] ++ ([v10] ++ ([v11] ++ ([v12] ++ [v13]))))) : Int) : Int) ≤ 1099511627776) = true) →
      ((decide (((List.length (l3 ++ ([v9] ++ ([v10] ++ ([v11] ++ ([v12] ++ [v13]))))) : Int) : Int) ≤ 9223372036854775807) = true) ∧ ((decide (((List.length (l3 ++ ([v9] ++ ([v10] ++ ([v11] ++ ([v12] ++ [v13]))))) : Int) : Int) ≤ 9223372036854775807) = true) →
      (allHas [⟨(-9223372036854775808), 9223372036854775807⟩] [(IntKind.wrap .i64 (v3 + 1))] ∧ I 1 ⟨[v0, v1, v2], [l0, l1, l2]⟩ ⟨[(IntKind.wrap .i64 (v3 + 1))], [(l3 ++ ([v9] ++ ([v10] ++ ([v11] ++ ([v12] ++ [v13]))))), (List.set l4 (Int.toNat (0 + v3)) (IntKind.wrap .i64 (((List.length l0 : Int) / 5) + v3)))]⟩ ∧ M 1 ⟨[v0, v1, v2], [l0, l1, l2]⟩ ⟨[(IntKind.wrap .i64 (v3 + 1))], [(l3 ++ ([v9] ++ ([v10] ++ ([v11] ++ ([v12] ++ [v13]))))), (List.set l4 (Int.toNat (0 + v3)) (IntKind.wrap .i64 (((List.length l0 : Int) / 5) + v3)))]⟩ < M 1 ⟨[v0, v1, v2], [l0, l1, l2]⟩ ⟨[v3], [l3, l4]⟩)))))))))))))))))))) ∧ (decide ((v3 : Int) < ((List.length l1 : Int) / 5)) = false →
      ((decide ((((List.length l3 : Int) / 5) : Int) = ((List.length l3 : Int) / 5)) = true ∧ decide (((List.length l3 : Int) : Int) ≤ 1099511627776) = true) ∧ ((decide ((((List.length l3 : Int) / 5) : Int) = ((List.length l3 : Int) / 5)) = true ∧ decide (((List.length l3 : Int) : Int) ≤ 1099511627776) = true) →
      post [0, 0] [l3])))))))))))))) ∧ (decide ((v0 : Int) = 1) = false →
  post [1, 1] [([] : List Int)]))
theorem q11 (T : Tab) (I : Nat → Env → Env → Prop) (M : Nat → Env → Env → Nat) (pre : Nat → List Int → List (List Int) → Prop) (post : List Int → List (List Int) → Prop) (l0 l1 : List Int) : t11.plain T (presG pre I M) post ⟨[], [l0, l1]⟩ = p11 T I M pre post l0 l1 := by kernel_rfl
theorem k11 (T : Tab) (I : Nat → Env → Env → Prop) (M : Nat → Env → Env → Nat) (pre : Nat → List Int → List (List Int) → Prop) (hs : SubSig T c11.sigs) (ht : TotG pre c11.sigs) (hC : CtAll Try.prog T.fns (presQ pre) c11.pfs c11.pty c11.cls c11.sigs) (hk : CpAll Try.prog c11.cps) (hlf : LfAll Try.prog T.fns (presQ pre) c11.lfs) (hi : ∀ xs ls, allHas (parIvs s11.params) xs → pre 11 xs ls → allHas iv11 xs)
    (h : ∀ (l0 l1 : List Int), allHas iv11 [] → allL (parLvs s11.params) [l0, l1] → pre 11 [] [l0, l1] → p11 T I M pre (fun ys zs => T.fns 11 [] [l0, l1] = (ys, zs)) l0 l1) : CTL Try.prog T.fns (presQ pre) 11 s11 :=
  T.ctl (hlf := hlf) (F := ⟨c11, [(8, ⟨1, [31], [], [32, 33, 34, 35, 9, 8, 36, 37, 38, 39, 40, 41, 42, 43, 44, 45, 46, 47, 48, 6, 49], [⟨(-9223372036854775808), 9223372036854775807⟩], [2, 3], [2]⟩)]⟩) (fuel := 250) vc11 Try.checked.mixed hs ht hC hk Try.func11 I M (fun xs ls h1 h2 h3 => ⟨hi xs ls h1 h3, h2⟩) fun xs ls hx hl hp => by
    match xs, ls, hx, hl, hp with
    | [], [l0, l1], hx, hl, hp => rw [q11]; exact h l0 l1 hx hl hp
/-- loop.example/g01242/laws.markNodeS -/
def s12 : WSig := ⟨[.i8, .i16, .i16, .i64, .i64], 36, [.i .i64], [(false, [.i .i64])], false, false⟩
noncomputable def c12 : Cfg := ⟨Try.prog, [], [], [], [], [], [], [], 0, []⟩
def iv12 : List Iv := [⟨(-9223372036854775808), 9223372036854775807⟩]
def t12 : VC :=
 (.need [(.b (.le (.len (.var 0)) (.lit 9223372036854775807)))]
 (.loop 1 [(.var 0), (.lit 0)] [(.var 0)] [⟨(-9223372036854775808), 9223372036854775807⟩, ⟨(-9223372036854775808), 9223372036854775807⟩] [(⟨(-9223372036854775808), 9223372036854775807⟩, 9223372036854775807)]
  (.need [(.b (.eq (.div (.len (.var 0)) (.lit 5)) (.div (.len (.var 1)) (.lit 5))))]
  (.ite (.lt (.var 2) (.div (.len (.var 1)) (.lit 5)))
   (.need [(.b (.eq (.div (.len (.var 0)) (.lit 5)) (.div (.len (.var 1)) (.lit 5))))]
   (.need [(.b (.le (.lit 0) (.var 2))), (.b (.lt (.var 2) (.div (.len (.var 1)) (.lit 5))))]
   (.need [(.b (.lt (.mul (.add (.lit 0) (.var 2)) (.lit 5)) (.len (.var 1))))]
   (.bind (.wrap .i64 (.add (.var 1) (.lit 1)))
   (.need [(.b (.eq (.div (.len (.var 0)) (.lit 5)) (.div (.len (.var 1)) (.lit 5))))]
   (.need [(.b (.le (.lit 0) (.var 2))), (.b (.lt (.var 2) (.div (.len (.var 1)) (.lit 5))))]
   (.need [(.b (.lt (.add (.mul (.add (.lit 0) (.var 2)) (.lit 5)) (.lit 1)) (.len (.set (.var 1) (.mul (.add (.lit 0) (.var 2)) (.lit 5)) (.wrap .i8 (.var 1))))))]
   (.bind (.wrap .i64 (.add (.var 3) (.lit 1)))
   (.need [(.b (.eq (.div (.len (.var 0)) (.lit 5)) (.div (.len (.var 1)) (.lit 5))))]
   (.need [(.b (.le (.lit 0) (.var 2))), (.b (.lt (.var 2) (.div (.len (.var 1)) (.lit 5))))]
   (.need [(.b (.lt (.add (.mul (.add (.lit 0) (.var 2)) (.lit 5)) (.lit 2)) (.len (.set (.set (.var 1) (.mul (.add (.lit 0) (.var 2)) (.lit 5)) (.wrap .i8 (.var 1))) (.add (.mul (.add (.lit 0) (.var 2)) (.lit 5)) (.lit 1)) (.wrap .i16 (.var 3))))))]
   (.bind (.wrap .i64 (.add (.var 4) (.lit 1)))
   (.need [(.b (.eq (.div (.len (.var 0)) (.lit 5)) (.div (.len (.var 1)) (.lit 5))))]
   (.need [(.b (.le (.lit 0) (.var 2))), (.b (.lt (.var 2) (.div (.len (.var 1)) (.lit 5))))]
   (.need [(.b (.lt (.add (.mul (.add (.lit 0) (.var 2)) (.lit 5)) (.lit 3)) (.len (.set (.set (.set (.var 1) (.mul (.add (.lit 0) (.var 2)) (.lit 5)) (.wrap .i8 (.var 1))) (.add (.mul (.add (.lit 0) (.var 2)) (.lit 5)) (.lit 1)) (.wrap .i16 (.var 3))) (.add (.mul (.add (.lit 0) (.var 2)) (.lit 5)) (.lit 2)) (.wrap .i16 (.var 4))))))]
   (.bind (.wrap .i64 (.add (.var 5) (.lit 1)))
   (.need [(.b (.eq (.div (.len (.var 0)) (.lit 5)) (.div (.len (.var 1)) (.lit 5))))]
   (.need [(.b (.le (.lit 0) (.var 2))), (.b (.lt (.var 2) (.div (.len (.var 1)) (.lit 5))))]
   (.need [(.b (.lt (.add (.mul (.add (.lit 0) (.var 2)) (.lit 5)) (.lit 4)) (.len (.set (.set (.set (.set (.var 1) (.mul (.add (.lit 0) (.var 2)) (.lit 5)) (.wrap .i8 (.var 1))) (.add (.mul (.add (.lit 0) (.var 2)) (.lit 5)) (.lit 1)) (.wrap .i16 (.var 3))) (.add (.mul (.add (.lit 0) (.var 2)) (.lit 5)) (.lit 2)) (.wrap .i16 (.var 4))) (.add (.mul (.add (.lit 0) (.var 2)) (.lit 5)) (.lit 3)) (.var 5)))))]
   (.bind (.wrap .i64 (.add (.var 6) (.lit 1)))
   (.bind (.wrap .i64 (.add (.var 2) (.lit 1)))
   (.again 1 1 1 [⟨(-9223372036854775808), 9223372036854775807⟩, ⟨(-9223372036854775808), 9223372036854775807⟩] [(.var 7), (.var 8)] [(.set (.set (.set (.set (.set (.var 1) (.mul (.add (.lit 0) (.var 2)) (.lit 5)) (.wrap .i8 (.var 1))) (.add (.mul (.add (.lit 0) (.var 2)) (.lit 5)) (.lit 1)) (.wrap .i16 (.var 3))) (.add (.mul (.add (.lit 0) (.var 2)) (.lit 5)) (.lit 2)) (.wrap .i16 (.var 4))) (.add (.mul (.add (.lit 0) (.var 2)) (.lit 5)) (.lit 3)) (.var 5)) (.add (.mul (.add (.lit 0) (.var 2)) (.lit 5)) (.lit 4)) (.var 6))]))))))))))))))))))))))
   (.need [(.b (.eq (.len (.var 1)) (.len (.var 0))))]
   (.fin (.e (.var 1) (.l (.var 1) .nil))))))))
def u12 : VC :=
 (.fin (.e (.var 0) (.l (.lit []) .nil)))
theorem vc12 : vcWf ⟨c12, [(2, ⟨1, [1, 5], [], [6, 7, 8, 9, 12, 13, 14, 15, 16, 17, 18, 19, 20, 21, 22, 23, 24, 25, 26, 27, 28, 29, 30, 31, 32, 33, 34, 35, 36, 37, 38, 39, 40, 41, 42, 43, 44, 45, 46, 47, 48, 49, 10, 11], [⟨(-9223372036854775808), 9223372036854775807⟩, ⟨(-9223372036854775808), 9223372036854775807⟩], [0], []⟩)]⟩ iv12 250 Try.f12 s12 true = t12 := by kernel_rfl
theorem vd12 : vcWf ⟨c12, [(2, ⟨1, [1, 5], [], [6, 7, 8, 9, 12, 13, 14, 15, 16, 17, 18, 19, 20, 21, 22, 23, 24, 25, 26, 27, 28, 29, 30, 31, 32, 33, 34, 35, 36, 37, 38, 39, 40, 41, 42, 43, 44, 45, 46, 47, 48, 49, 10, 11], [⟨(-9223372036854775808), 9223372036854775807⟩, ⟨(-9223372036854775808), 9223372036854775807⟩], [0], []⟩)]⟩ iv12 250 Try.f12 s12 false = u12 := by kernel_rfl
set_option linter.unusedVariables false in
def p12 (T : Tab) (I : Nat → Env → Env → Prop) (M : Nat → Env → Env → Nat) (pre : Nat → List Int → List (List Int) → Prop) (post : List Int → List (List Int) → Prop) (v0 : Int) (l0 : List Int) : Prop :=
 ((decide (((List.length l0 : Int) : Int) ≤ 9223372036854775807) = true) ∧ ((decide (((List.length l0 : Int) : Int) ≤ 9223372036854775807) = true) →
 ((allHas [⟨(-9223372036854775808), 9223372036854775807⟩, ⟨(-9223372036854775808), 9223372036854775807⟩] [v0, 0] ∧ I 1 ⟨[v0], [l0]⟩ ⟨[v0, 0], [l0]⟩) ∧ ∀ v1 v2 : Int, ∀ l1 : List Int, allHas [⟨(-9223372036854775808), 9223372036854775807⟩, ⟨(-9223372036854775808), 9223372036854775807⟩] [v1, v2] → allL [(⟨(-9223372036854775808), 9223372036854775807⟩, 9223372036854775807)] [l1] → I 1 ⟨[v0], [l0]⟩ ⟨[v1, v2], [l1]⟩ →
  ((decide ((((List.length l0 : Int) / 5) : Int) = ((List.length l1 : Int) / 5)) = true) ∧ ((decide ((((List.length l0 : Int) / 5) : Int) = ((List.length l1 : Int) / 5)) = true) →
  ((decide ((v2 : Int) < ((List.length l1 : Int) / 5)) = true →
   ((decide ((((List.length l0 : Int) / 5) : Int) = ((List.length l1 : Int) / 5)) = true) ∧ ((decide ((((List.length l0 : Int) / 5) : Int) = ((List.length l1 : Int) / 5)) = true) →
   ((decide ((0 : Int) ≤ v2) = true ∧ decide ((v2 : Int) < ((List.length l1 : Int) / 5)) = true) ∧ ((decide ((0 : Int) ≤ v2) = true ∧ decide ((v2 : Int) < ((List.length l1 : Int) / 5)) = true) →
   ((decide ((((0 + v2) * 5) : Int) < (List.length l1 : Int)) = true) ∧ ((decide ((((0 + v2) * 5) : Int) < (List.length l1 : Int)) = true) →
   ∀ v3 : Int, v3 = (IntKind.wrap .i64 (v1 + 1)) →
   ((decide ((((List.length l0 : Int) / 5) : Int) = ((List.length l1 : Int) / 5)) = true) ∧ ((decide ((((List.length l0 : Int) / 5) : Int) = ((List.length l1 : Int) / 5)) = true) →
   ((decide ((0 : Int) ≤ v2) = true ∧ decide ((v2 : Int) < ((List.length l1 : Int) / 5)) = true) ∧ ((decide ((0 : Int) ≤ v2) = true ∧ decide ((v2 : Int) < ((List.length l1 : Int) / 5)) = true) →
   ((decide (((((0 + v2) * 5) + 1) : Int) < (List.length (List.set l1 (Int.toNat ((0 + v2) * 5)) (IntKind.wrap .i8 v1)) : Int)) = true) ∧ ((decide (((((0 + v2) * 5) + 1) : Int) < (List.length (List.set l1 (Int.toNat ((0 + v2) * 5)) (IntKind.wrap .i8 v1)) : Int)) = true) →
   ∀ v4 : Int, v4 = (IntKind.wrap .i64 (v3 + 1)) →
   ((decide ((((List.length l0 : Int) / 5) : Int) = ((List.length l1 : Int) / 5)) = true) ∧ ((decide ((((List.length l0 : Int) / 5) : Int) = ((List.length l1 : Int) / 5)) = true) →
   ((decide ((0 : Int) ≤ v2) = true ∧ decide ((v2 : Int) < ((List.length l1 : Int) / 5)) = true) ∧ ((decide ((0 : Int) ≤ v2) = true ∧ decide ((v2 : Int) < ((List.length l1 : Int) / 5)) = true) →
   ((decide (((((0 + v2) * 5) + 2) : Int) < (List.length (List.set (List.set l1 (Int.toNat ((0 + v2) * 5)) (IntKind.wrap .i8 v1)) (Int.toNat (((0 + v2) * 5) + 1)) (IntKind.wrap .i16 v3)) : Int)) = true) ∧ ((decide (((((0 + v2) * 5) + 2) : Int) < (List.length (List.set (List.set l1 (Int.toNat ((0 + v2) * 5)) (IntKind.wrap .i8 v1)) (Int.toNat (((0 + v2) * 5) + 1)) (IntKind.wrap .i16 v3)) : Int)) = true) →
   ∀ v5 : Int, v5 = (IntKind.wrap .i64 (v4 + 1)) →
   ((decide ((((List.length l0 : Int) / 5) : Int) = ((List.length l1 : Int) / 5)) = true) ∧ ((decide ((((List.length l0 : Int) / 5) : Int) = ((List.length l1 : Int) / 5)) = true) →
   ((decide ((0 : Int) ≤ v2) = true ∧ decide ((v2 : Int) < ((List.length l1 : Int) / 5)) = true) ∧ ((decide ((0 : Int) ≤ v2) = true ∧ decide ((v2 : Int) < ((List.length l1 : Int) / 5)) = true) →
   ((decide (((((0 + v2) * 5) + 3) : Int) < (List.length (List.set (List.set (List.set l1 (Int.toNat ((0 + v2) * 5)) (IntKind.wrap .i8 v1)) (Int.toNat (((0 + v2) * 5) + 1)) (IntKind.wrap .i16 v3)) (Int.toNat (((0 + v2) * 5) + 2)) (IntKind.wrap .i16 v4)) : Int)) = true) ∧ ((decide (((((0 + v2) * 5) + 3) : Int) < (List.length (List.set (List.set (List.set l1 (Int.toNat ((0 + v2) * 5)) (IntKind.wrap .i8 v1)) (Int.toNat (((0 + v2) * 5) + 1)) (IntKind.wrap .i16 v3)) (Int.toNat (((0 + v2) * 5) + 2)) (IntKind.wrap .i16 v4)) : Int)) = true) →
   ∀ v6 : Int, v6 = (IntKind.wrap .i64 (v5 + 1)) →
   ((decide ((((List.length l0 : Int) / 5) : Int) = ((List.length l1 : Int) / 5)) = true) ∧ ((decide ((((List.length l0 : Int) / 5) : Int) = ((List.length l1 : Int) / 5)) = true) →
   ((decide ((0 : Int) ≤ v2) = true ∧ decide ((v2 : Int) < ((List.length l1 : Int) / 5)) = true) ∧ ((decide ((0 : Int) ≤ v2) = true ∧ decide ((v2 : Int) < ((List.length l1 : Int) / 5)) = true) →
   ((decide (((((0 + v2) * 5) + 4) : Int) < (List.length (List.set (List.set (List.set (List.set l1 (Int.toNat ((0 + v2) * 5)) (IntKind.wrap .i8 v1)) (Int.toNat (((0 + v2) * 5) + 1)) (IntKind.wrap .i16 v3)) (Int.toNat (((0 + v2) * 5) + 2)) (IntKind.wrap .i16 v4)) (Int.toNat (((0 + v2) * 5) + 3)) v5) : Int)) = true) ∧ ((decide (((((0 + v2) * 5) + 4) : Int) < (List.length (List.set (List.set (List.set (List.set l1 (Int.toNat ((0 + v2) * 5)) (IntKind.wrap .i8 v1)) (Int.toNat (((0 + v2) * 5) + 1)) (IntKind.wrap .i16 v3)) (Int.toNat (((0 + v2) * 5) + 2)) (IntKind.wrap .i16 v4)) (Int.toNat (((0 + v2) * 5) + 3)) v5) : Int)) = true) →
   ∀ v7 : Int, v7 = (IntKind.wrap .i64 (v6 + 1)) →
   ∀ v8 : Int, v8 = (IntKind.wrap .i64 (v2 + 1)) →
   (allHas [⟨(-9223372036854775808), 9223372036854775807⟩, ⟨(-9223372036854775808), 9223372036854775807⟩] [v7, v8] ∧ I 1 ⟨[v0], [l0]⟩ ⟨[v7, v8], [(List.set (List.set (List.set (List.set (List.set l1 (Int.toNat ((0 + v2) * 5)) (IntKind.wrap .i8 v1)) (Int.toNat (((0 + v2) * 5) + 1)) (IntKind.wrap .i16 v3)) (Int.toNat (((0 + v2) * 5) + 2)) (IntKind.wrap .i16 v4)) (Int.toNat (((0 + v2) * 5) + 3)) v5) (Int.toNat (((0 + v2) * 5) + 4)) v6)]⟩ ∧ M 1 ⟨[v0], [l0]⟩ ⟨[v7, v8], [(List.set (List.set (List.set (List.set (List.set l1 (Int.toNat ((0 + v2) * 5)) (IntKind.wrap .i8 v1)) (Int.toNat (((0 + v2) * 5) + 1)) (IntKind.wrap .i16 v3)) (Int.toNat (((0 + v2) * 5) + 2)) (IntKind.wrap .i16 v4)) (Int.toNat (((0 + v2) * 5) + 3)) v5) (Int.toNat (((0 + v2) * 5) + 4)) v6)]⟩ < M 1 ⟨[v0], [l0]⟩ ⟨[v1, v2], [l1]⟩)))))))))))))))))))))))))))))))) ∧ (decide ((v2 : Int) < ((List.length l1 : Int) / 5)) = false →
   ((decide (((List.length l1 : Int) : Int) = (List.length l0 : Int)) = true) ∧ ((decide (((List.length l1 : Int) : Int) = (List.length l0 : Int)) = true) →
   post [v1] [l1])))))))))
set_option linter.unusedVariables false in
def r12 (T : Tab) (I : Nat → Env → Env → Prop) (M : Nat → Env → Env → Nat) (pre : Nat → List Int → List (List Int) → Prop) (post : List Int → List (List Int) → Prop) (v0 : Int) : Prop :=
 post [v0] [([] : List Int)]
theorem q12 (T : Tab) (I : Nat → Env → Env → Prop) (M : Nat → Env → Env → Nat) (pre : Nat → List Int → List (List Int) → Prop) (post : List Int → List (List Int) → Prop) (v0 : Int) (l0 : List Int) : t12.plain T (presG pre I M) post ⟨[v0], [l0]⟩ = p12 T I M pre post v0 l0 := by kernel_rfl
theorem qn12 (T : Tab) (I : Nat → Env → Env → Prop) (M : Nat → Env → Env → Nat) (pre : Nat → List Int → List (List Int) → Prop) (post : List Int → List (List Int) → Prop) (v0 : Int) : u12.plain T (presG pre I M) post ⟨[v0], []⟩ = r12 T I M pre post v0 := by kernel_rfl
theorem k12 (T : Tab) (I : Nat → Env → Env → Prop) (M : Nat → Env → Env → Nat) (pre : Nat → List Int → List (List Int) → Prop) (hs : SubSig T c12.sigs) (ht : TotG pre c12.sigs) (hC : CtAll Try.prog T.fns (presQ pre) c12.pfs c12.pty c12.cls c12.sigs) (hk : CpAll Try.prog c12.cps) (hi : ∀ xs ls, allHas (parIvs s12.params) xs → pre 12 xs ls → allHas iv12 xs)
    (ho : ∀ (v0 : Int) (l0 : List Int), allHas iv12 [v0] → allL [s12.lv] [l0] → pre 12 [v0] [l0] → p12 T I M pre (fun ys zs => T.fns 12 [v0] [l0] = (ys, zs)) v0 l0)
    (hn : ∀ (v0 : Int), allHas iv12 [v0] → pre 12 [v0] [[]] → r12 T I M pre (fun ys zs => T.fns 12 [v0] [[]] = (ys, zs)) v0) : CTW Try.prog T.fns (presQ pre) 12 s12 :=
  T.ctw (F := ⟨c12, [(2, ⟨1, [1, 5], [], [6, 7, 8, 9, 12, 13, 14, 15, 16, 17, 18, 19, 20, 21, 22, 23, 24, 25, 26, 27, 28, 29, 30, 31, 32, 33, 34, 35, 36, 37, 38, 39, 40, 41, 42, 43, 44, 45, 46, 47, 48, 49, 10, 11], [⟨(-9223372036854775808), 9223372036854775807⟩, ⟨(-9223372036854775808), 9223372036854775807⟩], [0], []⟩)]⟩) (fuel := 250) vc12 vd12 Try.checked.mixed hs ht hC hk Try.func12 I M hi (fun xs l hx hl hp => by
    match xs, hx, hp with
    | [v0], hx, hp => rw [q12]; exact ho v0 l hx hl hp) fun xs hx hp => by
    match xs, hx, hp with
    | [v0], hx, hp => rw [qn12]; exact hn v0 hx hp
/-- loop.example/g01242/laws.heldNodeS -/
def s13 : Sig := ⟨[.lst [.i8, .i16, .i16, .i64, .i64], .val false [.i .i64]], [(false, [.i .i64])], false⟩
noncomputable def c13 : Cfg := ⟨Try.prog, [], [], [], [], [], [], [], 0, []⟩
def iv13 : List Iv := [⟨(-9223372036854775808), 9223372036854775807⟩]
def t13 : VC :=
 (.loop 1 [(.var 0), (.lit 0)] [] [⟨(-9223372036854775808), 9223372036854775807⟩, ⟨(-9223372036854775808), 9223372036854775807⟩] []
  (.ite (.lt (.var 2) (.div (.len (.var 0)) (.lit 5)))
   (.need [(.b (.le (.lit 0) (.var 2))), (.b (.lt (.var 2) (.div (.len (.var 0)) (.lit 5))))]
   (.need [(.b (.lt (.mul (.add (.lit 0) (.var 2)) (.lit 5)) (.len (.var 0))))]
   (.bind (.wrap .i8 (.at (.var 0) (.mul (.add (.lit 0) (.var 2)) (.lit 5))))
   (.ite (.not (.eq (.var 3) (.wrap .i8 (.var 1))))
    (.fin (.e (.lit (-1)) .nil))
    (.bind (.wrap .i64 (.add (.var 1) (.lit 1)))
    (.need [(.b (.le (.lit 0) (.var 2))), (.b (.lt (.var 2) (.div (.len (.var 0)) (.lit 5))))]
    (.need [(.b (.lt (.add (.mul (.add (.lit 0) (.var 2)) (.lit 5)) (.lit 1)) (.len (.var 0))))]
    (.bind (.wrap .i16 (.at (.var 0) (.add (.mul (.add (.lit 0) (.var 2)) (.lit 5)) (.lit 1))))
    (.ite (.not (.eq (.var 5) (.wrap .i16 (.var 4))))
     (.fin (.e (.lit (-1)) .nil))
     (.bind (.wrap .i64 (.add (.var 4) (.lit 1)))
     (.need [(.b (.le (.lit 0) (.var 2))), (.b (.lt (.var 2) (.div (.len (.var 0)) (.lit 5))))]
     (.need [(.b (.lt (.add (.mul (.add (.lit 0) (.var 2)) (.lit 5)) (.lit 2)) (.len (.var 0))))]
     (.bind (.wrap .i16 (.at (.var 0) (.add (.mul (.add (.lit 0) (.var 2)) (.lit 5)) (.lit 2))))
     (.ite (.not (.eq (.var 7) (.wrap .i16 (.var 6))))
      (.fin (.e (.lit (-1)) .nil))
      (.bind (.wrap .i64 (.add (.var 6) (.lit 1)))
      (.need [(.b (.le (.lit 0) (.var 2))), (.b (.lt (.var 2) (.div (.len (.var 0)) (.lit 5))))]
      (.need [(.b (.lt (.add (.mul (.add (.lit 0) (.var 2)) (.lit 5)) (.lit 3)) (.len (.var 0))))]
      (.bind (.at (.var 0) (.add (.mul (.add (.lit 0) (.var 2)) (.lit 5)) (.lit 3)))
      (.ite (.not (.eq (.var 9) (.var 8)))
       (.fin (.e (.lit (-1)) .nil))
       (.bind (.wrap .i64 (.add (.var 8) (.lit 1)))
       (.need [(.b (.le (.lit 0) (.var 2))), (.b (.lt (.var 2) (.div (.len (.var 0)) (.lit 5))))]
       (.need [(.b (.lt (.add (.mul (.add (.lit 0) (.var 2)) (.lit 5)) (.lit 4)) (.len (.var 0))))]
       (.bind (.at (.var 0) (.add (.mul (.add (.lit 0) (.var 2)) (.lit 5)) (.lit 4)))
       (.ite (.not (.eq (.var 11) (.var 10)))
        (.fin (.e (.lit (-1)) .nil))
        (.bind (.wrap .i64 (.add (.var 10) (.lit 1)))
        (.bind (.wrap .i64 (.add (.var 2) (.lit 1)))
        (.again 1 1 1 [⟨(-9223372036854775808), 9223372036854775807⟩, ⟨(-9223372036854775808), 9223372036854775807⟩] [(.var 12), (.var 13)] [])))))))))))))))))))))))))))
   (.fin (.e (.var 1) .nil))))
theorem vc13 : vcOfI ⟨c13, [(2, ⟨1, [1, 5], [], [6, 7, 8, 9, 12, 13, 14, 15, 16, 17, 18, 19, 4, 20, 21, 22, 23, 24, 25, 26, 27, 28, 29, 30, 31, 32, 33, 34, 35, 36, 37, 38, 39, 40, 41, 42, 43, 44, 45, 46, 47, 48, 49, 50, 51, 52, 53, 54, 55, 56, 57, 58, 59, 10, 11], [⟨(-9223372036854775808), 9223372036854775807⟩, ⟨(-9223372036854775808), 9223372036854775807⟩], [], []⟩)]⟩ iv13 (parLvs s13.params) 250 Try.f13 s13 = t13 := by kernel_rfl
set_option linter.unusedVariables false in
def p13 (T : Tab) (I : Nat → Env → Env → Prop) (M : Nat → Env → Env → Nat) (pre : Nat → List Int → List (List Int) → Prop) (post : List Int → List (List Int) → Prop) (v0 : Int) (l0 : List Int) : Prop :=
 ((allHas [⟨(-9223372036854775808), 9223372036854775807⟩, ⟨(-9223372036854775808), 9223372036854775807⟩] [v0, 0] ∧ I 1 ⟨[v0], [l0]⟩ ⟨[v0, 0], []⟩) ∧ ∀ v1 v2 : Int, allHas [⟨(-9223372036854775808), 9223372036854775807⟩, ⟨(-9223372036854775808), 9223372036854775807⟩] [v1, v2] → I 1 ⟨[v0], [l0]⟩ ⟨[v1, v2], []⟩ →
  ((decide ((v2 : Int) < ((List.length l0 : Int) / 5)) = true →
   ((decide ((0 : Int) ≤ v2) = true ∧ decide ((v2 : Int) < ((List.length l0 : Int) / 5)) = true) ∧ ((decide ((0 : Int) ≤ v2) = true ∧ decide ((v2 : Int) < ((List.length l0 : Int) / 5)) = true) →
   ((decide ((((0 + v2) * 5) : Int) < (List.length l0 : Int)) = true) ∧ ((decide ((((0 + v2) * 5) : Int) < (List.length l0 : Int)) = true) →
   ∀ v3 : Int, v3 = (IntKind.wrap .i8 (List.getD l0 (Int.toNat ((0 + v2) * 5)) 0)) →
   (((!decide ((v3 : Int) = (IntKind.wrap .i8 v1))) = true →
    post [(-1)] []) ∧ ((!decide ((v3 : Int) = (IntKind.wrap .i8 v1))) = false →
    ∀ v4 : Int, v4 = (IntKind.wrap .i64 (v1 + 1)) →
    ((decide ((0 : Int) ≤ v2) = true ∧ decide ((v2 : Int) < ((List.length l0 : Int) / 5)) = true) ∧ ((decide ((0 : Int) ≤ v2) = true ∧ decide ((v2 : Int) < ((List.length l0 : Int) / 5)) = true) →
    ((decide (((((0 + v2) * 5) + 1) : Int) < (List.length l0 : Int)) = true) ∧ ((decide (((((0 + v2) * 5) + 1) : Int) < (List.length l0 : Int)) = true) →
    ∀ v5 : Int, v5 = (IntKind.wrap .i16 (List.getD l0 (Int.toNat (((0 + v2) * 5) + 1)) 0)) →
    (((!decide ((v5 : Int) = (IntKind.wrap .i16 v4))) = true →
     post [(-1)] []) ∧ ((!decide ((v5 : Int) = (IntKind.wrap .i16 v4))) = false →
     ∀ v6 : Int, v6 = (IntKind.wrap .i64 (v4 + 1)) →
     ((decide ((0 : Int) ≤ v2) = true ∧ decide ((v2 : Int) < ((List.length l0 : Int) / 5)) = true) ∧ ((decide ((0 : Int) ≤ v2) = true ∧ decide ((v2 : Int) < ((List.length l0 : Int) / 5)) = true) →
     ((decide (((((0 + v2) * 5) + 2) : Int) < (List.length l0 : Int)) = true) ∧ ((decide (((((0 + v2) * 5) + 2) : Int) < (List.length l0 : Int)) = true) →
     ∀ v7 : Int, v7 = (IntKind.wrap .i16 (List.getD l0 (Int.toNat (((0 + v2) * 5) + 2)) 0)) →
     (((!decide ((v7 : Int) = (IntKind.wrap .i16 v6))) = true →
      post [(-1)] []) ∧ ((!decide ((v7 : Int) = (IntKind.wrap .i16 v6))) = false →
      ∀ v8 : Int, v8 = (IntKind.wrap .i64 (v6 + 1)) →
      ((decide ((0 : Int) ≤ v2) = true ∧ decide ((v2 : Int) < ((List.length l0 : Int) / 5)) = true) ∧ ((decide ((0 : Int) ≤ v2) = true ∧ decide ((v2 : Int) < ((List.length l0 : Int) / 5)) = true) →
      ((decide (((((0 + v2) * 5) + 3) : Int) < (List.length l0 : Int)) = true) ∧ ((decide (((((0 + v2) * 5) + 3) : Int) < (List.length l0 : Int)) = true) →
      ∀ v9 : Int, v9 = (List.getD l0 (Int.toNat (((0 + v2) * 5) + 3)) 0) →
      (((!decide ((v9 : Int) = v8)) = true →
       post [(-1)] []) ∧ ((!decide ((v9 : Int) = v8)) = false →
       ∀ v10 : Int, v10 = (IntKind.wrap .i64 (v8 + 1)) →
       ((decide ((0 : Int) ≤ v2) = true ∧ decide ((v2 : Int) < ((List.length l0 : Int) / 5)) = true) ∧ ((decide ((0 : Int) ≤ v2) = true ∧ decide ((v2 : Int) < ((List.length l0 : Int) / 5)) = true) →
       ((decide (((((0 + v2) * 5) + 4) : Int) < (List.length l0 : Int)) = true) ∧ ((decide (((((0 + v2) * 5) + 4) : Int) < (List.length l0 : Int)) = true) →
       ∀ v11 : Int, v11 = (List.getD l0 (Int.toNat (((0 + v2) * 5) + 4)) 0) →
       (((!decide ((v11 : Int) = v10)) = true →
        post [(-1)] []) ∧ ((!decide ((v11 : Int) = v10)) = false →
        ∀ v12 : Int, v12 = (IntKind.wrap .i64 (v10 + 1)) →
        ∀ v13 : Int, v13 = (IntKind.wrap .i64 (v2 + 1)) →
        (allHas [⟨(-9223372036854775808), 9223372036854775807⟩, ⟨(-9223372036854775808), 9223372036854775807⟩] [v12, v13] ∧ I 1 ⟨[v0], [l0]⟩ ⟨[v12, v13], []⟩ ∧ M 1 ⟨[v0], [l0]⟩ ⟨[v12, v13], []⟩ < M 1 ⟨[v0], [l0]⟩ ⟨[v1, v2], []⟩)))))))))))))))))))))))))))))))) ∧ (decide ((v2 : Int) < ((List.length l0 : Int) / 5)) = false →
   post [v1] [])))
theorem q13 (T : Tab) (I : Nat → Env → Env → Prop) (M : Nat → Env → Env → Nat) (pre : Nat → List Int → List (List Int) → Prop) (post : List Int → List (List Int) → Prop) (v0 : Int) (l0 : List Int) : t13.plain T (presG pre I M) post ⟨[v0], [l0]⟩ = p13 T I M pre post v0 l0 := by kernel_rfl
theorem k13 (T : Tab) (I : Nat → Env → Env → Prop) (M : Nat → Env → Env → Nat) (pre : Nat → List Int → List (List Int) → Prop) (hs : SubSig T c13.sigs) (ht : TotG pre c13.sigs) (hg : T.sig 13 = some s13) (hC : CtAll Try.prog T.fns (presQ pre) c13.pfs c13.pty c13.cls c13.sigs) (hk : CpAll Try.prog c13.cps) (hi : ∀ xs ls, allHas (parIvs s13.params) xs → pre 13 xs ls → allHas iv13 xs)
    (h : ∀ (v0 : Int) (l0 : List Int), allHas iv13 [v0] → allL (parLvs s13.params) [l0] → pre 13 [v0] [l0] → p13 T I M pre (fun ys _ => ys = T.app 13 [v0] [l0]) v0 l0) : CT Try.prog T.fns (presQ pre) 13 s13 :=
  T.ctg (F := ⟨c13, [(2, ⟨1, [1, 5], [], [6, 7, 8, 9, 12, 13, 14, 15, 16, 17, 18, 19, 4, 20, 21, 22, 23, 24, 25, 26, 27, 28, 29, 30, 31, 32, 33, 34, 35, 36, 37, 38, 39, 40, 41, 42, 43, 44, 45, 46, 47, 48, 49, 50, 51, 52, 53, 54, 55, 56, 57, 58, 59, 10, 11], [⟨(-9223372036854775808), 9223372036854775807⟩, ⟨(-9223372036854775808), 9223372036854775807⟩], [], []⟩)]⟩) (fuel := 250) vc13 Try.checked.mixed hs ht hg hC hk Try.func13 I M (fun xs ls h1 h2 h3 => ⟨hi xs ls h1 h3, h2⟩) fun xs ls hx hl hp => by
    match xs, ls, hx, hl, hp with
    | [v0], [l0], hx, hl, hp => rw [q13]; exact h v0 l0 hx hl hp
/-- loop.example/g01242/laws.FnExactJoinTerms -/
def s4 : Sig := ⟨[.lst [.i8, .i16, .i16, .i64, .i64], .lst [.i8, .i16, .i16, .i64, .i64]], [(false, [.b])], true⟩
noncomputable def c4 : Cfg := ⟨Try.prog, [(5, s5), (9, s9), (13, s13)], [(7, s7, y7)], [(10, s10), (11, s11)], [(12, s12)], [], [], [], 0, []⟩
def iv4 : List Iv := []
def t4 : VC :=
 (.call 5 (.l (.var 0) (.e (.lit 1048576) .nil)) 1
 (.ite (.lt (.var 0) (.lit 0))
  (.fin (.e (.lit 1) .nil))
  (.call 5 (.l (.var 1) (.e (.var 0) .nil)) 1
  (.ite (.lt (.var 1) (.lit 0))
   (.fin (.e (.lit 1) .nil))
   (.need [(.b (.le (.len (.var 0)) (.lit 1099511627776)))]
   (.need [(.b (.le (.len (.var 1)) (.lit 1099511627776)))]
   (.calll 10 (.l (.var 0) (.l (.var 1) .nil)) [⟨0, 1⟩, ⟨(-9223372036854775808), 9223372036854775807⟩] [(⟨(-9223372036854775808), 9223372036854775807⟩, 1099511627776)]
   (.ite (.eq (.var 2) (.lit 1))
    (.need [(.b (.le (.len (.var 0)) (.lit 1099511627776)))]
    (.need [(.b (.le (.len (.var 1)) (.lit 1099511627776)))]
    (.calll 11 (.l (.var 0) (.l (.var 1) .nil)) [⟨0, 1⟩, ⟨(-9223372036854775808), 9223372036854775807⟩] [(⟨(-9223372036854775808), 9223372036854775807⟩, 1099511627776)]
    (.ite (.eq (.var 4) (.lit 1))
     (.call 9 (.l (.lit []) (.l (.lit []) .nil)) 1
     (.ite (.eq (.var 6) (.lit 1))
      (.ite (.not (.eq (.var 5) (.var 3)))
       (.fin (.e (.lit 0) .nil))
       (.need [(.b (.le (.len (.var 0)) (.lit 1099511627776)))]
       (.call 9 (.l (.var 0) (.l (.var 0) .nil)) 1
       (.ite (.not (.eq (.var 7) (.lit 1)))
        (.fin (.e (.lit 0) .nil))
        (.need [(.b (.le (.len (.var 1)) (.lit 1099511627776)))]
        (.call 9 (.l (.var 1) (.l (.var 1) .nil)) 1
        (.ite (.not (.eq (.var 8) (.lit 1)))
         (.fin (.e (.lit 0) .nil))
         (.need [(.pre 12 (.l (.var 0) (.e (.lit 1) .nil)))]
         (.calll 12 (.l (.var 0) (.e (.lit 1) .nil)) [⟨(-9223372036854775808), 9223372036854775807⟩] [(⟨(-9223372036854775808), 9223372036854775807⟩, 46116860184273879035)]
         (.need [(.pre 12 (.l (.var 1) (.e (.var 9) .nil)))]
         (.calll 12 (.l (.var 1) (.e (.var 9) .nil)) [⟨(-9223372036854775808), 9223372036854775807⟩] [(⟨(-9223372036854775808), 9223372036854775807⟩, 46116860184273879035)]
         (.ite (.le (.lit 0) (.var 10))
          (.call 9 (.l (.lit []) (.l (.lit []) .nil)) 1
          (.ite (.eq (.var 11) (.lit 1))
           (.need [(.pre 12 (.l (.lit []) (.e (.lit 1) .nil)))]
           (.calll 12 (.l (.lit []) (.e (.lit 1) .nil)) [⟨(-9223372036854775808), 9223372036854775807⟩] [(⟨(-9223372036854775808), 9223372036854775807⟩, 46116860184273879035)]
           (.need [(.pre 13 (.l (.lit []) (.e (.lit 1) .nil)))]
           (.call 13 (.l (.lit []) (.e (.lit 1) .nil)) 1
           (.ite (.lt (.var 13) (.lit 0))
            (.fin (.e (.lit 0) .nil))
            (.ite (.not (.eq (.var 13) (.var 12)))
             (.fin (.e (.lit 0) .nil))
             (.need [(.b (.le (.len (.var 0)) (.lit 1099511627776)))]
             (.need [(.b (.le (.len (.var 1)) (.lit 1099511627776)))]
             (.calll 11 (.l (.var 0) (.l (.var 1) .nil)) [⟨0, 1⟩, ⟨(-9223372036854775808), 9223372036854775807⟩] [(⟨(-9223372036854775808), 9223372036854775807⟩, 1099511627776)]
             (.ite (.eq (.var 14) (.lit 1))
              (.call 9 (.l (.lit []) (.l (.lit []) .nil)) 1
              (.ite (.eq (.var 16) (.lit 1))
               (.ite (.not (.eq (.var 15) (.var 3)))
                (.fin (.e (.lit 0) .nil))
                (.need [(.pre 13 (.l (.lit []) (.e (.lit 1) .nil)))]
                (.call 13 (.l (.lit []) (.e (.lit 1) .nil)) 1
                (.ite (.lt (.var 17) (.lit 0))
                 (.fin (.e (.lit 0) .nil))
                 (.ite (.not (.eq (.var 17) (.var 12)))
                  (.fin (.e (.lit 0) .nil))
                  (.fin (.e (.lit 1) .nil)))))))
               (.fin (.e (.lit 0) .nil))))
              (.call 9 (.l (.var 7) (.l (.lit []) .nil)) 1
              (.ite (.eq (.var 16) (.lit 1))
               (.ite (.not (.eq (.var 15) (.var 3)))
                (.fin (.e (.lit 0) .nil))
                (.need [(.pre 13 (.l (.lit []) (.e (.lit 1) .nil)))]
                (.call 13 (.l (.lit []) (.e (.lit 1) .nil)) 1
                (.ite (.lt (.var 17) (.lit 0))
                 (.fin (.e (.lit 0) .nil))
                 (.ite (.not (.eq (.var 17) (.var 12)))
                  (.fin (.e (.lit 0) .nil))
                  (.fin (.e (.lit 1) .nil)))))))
               (.fin (.e (.lit 0) .nil))))))))))))))
           (.fin (.e (.lit 0) .nil))))
          (.fin (.e (.lit 0) .nil))))))))))))))
      (.fin (.e (.lit 0) .nil))))
     (.call 9 (.l (.var 3) (.l (.lit []) .nil)) 1
     (.ite (.eq (.var 6) (.lit 1))
      (.ite (.not (.eq (.var 5) (.var 3)))
       (.fin (.e (.lit 0) .nil))
       (.need [(.b (.le (.len (.var 0)) (.lit 1099511627776)))]
       (.call 9 (.l (.var 0) (.l (.var 0) .nil)) 1
       (.ite (.not (.eq (.var 7) (.lit 1)))
        (.fin (.e (.lit 0) .nil))
        (.need [(.b (.le (.len (.var 1)) (.lit 1099511627776)))]
        (.call 9 (.l (.var 1) (.l (.var 1) .nil)) 1
        (.ite (.not (.eq (.var 8) (.lit 1)))
         (.fin (.e (.lit 0) .nil))
         (.need [(.pre 12 (.l (.var 0) (.e (.lit 1) .nil)))]
         (.calll 12 (.l (.var 0) (.e (.lit 1) .nil)) [⟨(-9223372036854775808), 9223372036854775807⟩] [(⟨(-9223372036854775808), 9223372036854775807⟩, 46116860184273879035)]
         (.need [(.pre 12 (.l (.var 1) (.e (.var 9) .nil)))]
         (.calll 12 (.l (.var 1) (.e (.var 9) .nil)) [⟨(-9223372036854775808), 9223372036854775807⟩] [(⟨(-9223372036854775808), 9223372036854775807⟩, 46116860184273879035)]
         (.ite (.le (.lit 0) (.var 10))
          (.call 9 (.l (.var 3) (.l (.lit []) .nil)) 1
          (.ite (.eq (.var 11) (.lit 1))
           (.need [(.pre 12 (.l (.var 3) (.e (.lit 1) .nil)))]
           (.calll 12 (.l (.var 3) (.e (.lit 1) .nil)) [⟨(-9223372036854775808), 9223372036854775807⟩] [(⟨(-9223372036854775808), 9223372036854775807⟩, 46116860184273879035)]
           (.need [(.pre 13 (.l (.var 6) (.e (.lit 1) .nil)))]
           (.call 13 (.l (.var 6) (.e (.lit 1) .nil)) 1
           (.ite (.lt (.var 13) (.lit 0))
            (.fin (.e (.lit 0) .nil))
            (.ite (.not (.eq (.var 13) (.var 12)))
             (.fin (.e (.lit 0) .nil))
             (.need [(.b (.le (.len (.var 0)) (.lit 1099511627776)))]
             (.need [(.b (.le (.len (.var 1)) (.lit 1099511627776)))]
             (.calll 11 (.l (.var 0) (.l (.var 1) .nil)) [⟨0, 1⟩, ⟨(-9223372036854775808), 9223372036854775807⟩] [(⟨(-9223372036854775808), 9223372036854775807⟩, 1099511627776)]
             (.ite (.eq (.var 14) (.lit 1))
              (.call 9 (.l (.lit []) (.l (.lit []) .nil)) 1
              (.ite (.eq (.var 16) (.lit 1))
               (.ite (.not (.eq (.var 15) (.var 3)))
                (.fin (.e (.lit 0) .nil))
                (.need [(.pre 13 (.l (.var 6) (.e (.lit 1) .nil)))]
                (.call 13 (.l (.var 6) (.e (.lit 1) .nil)) 1
                (.ite (.lt (.var 17) (.lit 0))
                 (.fin (.e (.lit 0) .nil))
                 (.ite (.not (.eq (.var 17) (.var 12)))
                  (.fin (.e (.lit 0) .nil))
                  (.fin (.e (.lit 1) .nil)))))))
               (.fin (.e (.lit 0) .nil))))
              (.call 9 (.l (.var 7) (.l (.lit []) .nil)) 1
              (.ite (.eq (.var 16) (.lit 1))
               (.ite (.not (.eq (.var 15) (.var 3)))
                (.fin (.e (.lit 0) .nil))
                (.need [(.pre 13 (.l (.var 6) (.e (.lit 1) .nil)))]
                (.call 13 (.l (.var 6) (.e (.lit 1) .nil)) 1
                (.ite (.lt (.var 17) (.lit 0))
                 (.fin (.e (.lit 0) .nil))
                 (.ite (.not (.eq (.var 17) (.var 12)))
                  (.fin (.e (.lit 0) .nil))
                  (.fin (.e (.lit 1) .nil)))))))
               (.fin (.e (.lit 0) .nil))))))))))))))
           (.fin (.e (.lit 0) .nil))))
          (.fin (.e (.lit 0) .nil))))))))))))))
      (.fin (.e (.lit 0) .nil))))))))
    (.need [(.b (.le (.len (.var 0)) (.lit 1099511627776)))]
    (.need [(.b (.le (.len (.var 1)) (.lit 1099511627776)))]
    (.calll 11 (.l (.var 0) (.l (.var 1) .nil)) [⟨0, 1⟩, ⟨(-9223372036854775808), 9223372036854775807⟩] [(⟨(-9223372036854775808), 9223372036854775807⟩, 1099511627776)]
    (.ite (.eq (.var 4) (.lit 1))
     (.call 9 (.l (.lit []) (.l (.var 2) .nil)) 1
     (.ite (.eq (.var 6) (.lit 1))
      (.ite (.not (.eq (.var 5) (.var 3)))
       (.fin (.e (.lit 0) .nil))
       (.need [(.b (.le (.len (.var 0)) (.lit 1099511627776)))]
       (.call 9 (.l (.var 0) (.l (.var 0) .nil)) 1
       (.ite (.not (.eq (.var 7) (.lit 1)))
        (.fin (.e (.lit 0) .nil))
        (.need [(.b (.le (.len (.var 1)) (.lit 1099511627776)))]
        (.call 9 (.l (.var 1) (.l (.var 1) .nil)) 1
        (.ite (.not (.eq (.var 8) (.lit 1)))
         (.fin (.e (.lit 0) .nil))
         (.need [(.pre 12 (.l (.var 0) (.e (.lit 1) .nil)))]
         (.calll 12 (.l (.var 0) (.e (.lit 1) .nil)) [⟨(-9223372036854775808), 9223372036854775807⟩] [(⟨(-9223372036854775808), 9223372036854775807⟩, 46116860184273879035)]
         (.need [(.pre 12 (.l (.var 1) (.e (.var 9) .nil)))]
         (.calll 12 (.l (.var 1) (.e (.var 9) .nil)) [⟨(-9223372036854775808), 9223372036854775807⟩] [(⟨(-9223372036854775808), 9223372036854775807⟩, 46116860184273879035)]
         (.ite (.le (.lit 0) (.var 10))
          (.call 9 (.l (.lit []) (.l (.var 2) .nil)) 1
          (.ite (.eq (.var 11) (.lit 1))
           (.need [(.pre 12 (.l (.lit []) (.e (.lit 1) .nil)))]
           (.calll 12 (.l (.lit []) (.e (.lit 1) .nil)) [⟨(-9223372036854775808), 9223372036854775807⟩] [(⟨(-9223372036854775808), 9223372036854775807⟩, 46116860184273879035)]
           (.need [(.pre 13 (.l (.lit []) (.e (.lit 1) .nil)))]
           (.call 13 (.l (.lit []) (.e (.lit 1) .nil)) 1
           (.ite (.lt (.var 13) (.lit 0))
            (.fin (.e (.lit 0) .nil))
            (.ite (.not (.eq (.var 13) (.var 12)))
             (.fin (.e (.lit 0) .nil))
             (.need [(.b (.le (.len (.var 0)) (.lit 1099511627776)))]
             (.need [(.b (.le (.len (.var 1)) (.lit 1099511627776)))]
             (.calll 11 (.l (.var 0) (.l (.var 1) .nil)) [⟨0, 1⟩, ⟨(-9223372036854775808), 9223372036854775807⟩] [(⟨(-9223372036854775808), 9223372036854775807⟩, 1099511627776)]
             (.ite (.eq (.var 14) (.lit 1))
              (.call 9 (.l (.lit []) (.l (.var 2) .nil)) 1
              (.ite (.eq (.var 16) (.lit 1))
               (.ite (.not (.eq (.var 15) (.var 3)))
                (.fin (.e (.lit 0) .nil))
                (.need [(.pre 13 (.l (.lit []) (.e (.lit 1) .nil)))]
                (.call 13 (.l (.lit []) (.e (.lit 1) .nil)) 1
                (.ite (.lt (.var 17) (.lit 0))
                 (.fin (.e (.lit 0) .nil))
                 (.ite (.not (.eq (.var 17) (.var 12)))
                  (.fin (.e (.lit 0) .nil))
                  (.fin (.e (.lit 1) .nil)))))))
               (.fin (.e (.lit 0) .nil))))
              (.call 9 (.l (.var 7) (.l (.var 2) .nil)) 1
              (.ite (.eq (.var 16) (.lit 1))
               (.ite (.not (.eq (.var 15) (.var 3)))
                (.fin (.e (.lit 0) .nil))
                (.need [(.pre 13 (.l (.lit []) (.e (.lit 1) .nil)))]
                (.call 13 (.l (.lit []) (.e (.lit 1) .nil)) 1
                (.ite (.lt (.var 17) (.lit 0))
                 (.fin (.e (.lit 0) .nil))
                 (.ite (.not (.eq (.var 17) (.var 12)))
                  (.fin (.e (.lit 0) .nil))
                  (.fin (.e (.lit 1) .nil)))))))
               (.fin (.e (.lit 0) .nil))))))))))))))
           (.fin (.e (.lit 0) .nil))))
          (.fin (.e (.lit 0) .nil))))))))))))))
      (.fin (.e (.lit 0) .nil))))
     (.call 9 (.l (.var 3) (.l (.var 2) .nil)) 1
     (.ite (.eq (.var 6) (.lit 1))
      (.ite (.not (.eq (.var 5) (.var 3)))
       (.fin (.e (.lit 0) .nil))
       (.need [(.b (.le (.len (.var 0)) (.lit 1099511627776)))]
       (.call 9 (.l (.var 0) (.l (.var 0) .nil)) 1
       (.ite (.not (.eq (.var 7) (.lit 1)))
        (.fin (.e (.lit 0) .nil))
        (.need [(.b (.le (.len (.var 1)) (.lit 1099511627776)))]
        (.call 9 (.l (.var 1) (.l (.var 1) .nil)) 1
        (.ite (.not (.eq (.var 8) (.lit 1)))
         (.fin (.e (.lit 0) .nil))
         (.need [(.pre 12 (.l (.var 0) (.e (.lit 1) .nil)))]
         (.calll 12 (.l (.var 0) (.e (.lit 1) .nil)) [⟨(-9223372036854775808), 9223372036854775807⟩] [(⟨(-9223372036854775808), 9223372036854775807⟩, 46116860184273879035)]
         (.need [(.pre 12 (.l (.var 1) (.e (.var 9) .nil)))]
         (.calll 12 (.l (.var 1) (.e (.var 9) .nil)) [⟨(-9223372036854775808), 9223372036854775807⟩] [(⟨(-9223372036854775808), 9223372036854775807⟩, 46116860184273879035)]
         (.ite (.le (.lit 0) (.var 10))
          (.call 9 (.l (.var 3) (.l (.var 2) .nil)) 1
          (.ite (.eq (.var 11) (.lit 1))
           (.need [(.pre 12 (.l (.var 3) (.e (.lit 1) .nil)))]
           (.calll 12 (.l (.var 3) (.e (.lit 1) .nil)) [⟨(-9223372036854775808), 9223372036854775807⟩] [(⟨(-9223372036854775808), 9223372036854775807⟩, 46116860184273879035)]
           (.need [(.pre 13 (.l (.var 6) (.e (.lit 1) .nil)))]
           (.call 13 (.l (.var 6) (.e (.lit 1) .nil)) 1
           (.ite (.lt (.var 13) (.lit 0))
            (.fin (.e (.lit 0) .nil))
            (.ite (.not (.eq (.var 13) (.var 12)))
             (.fin (.e (.lit 0) .nil))
             (.need [(.b (.le (.len (.var 0)) (.lit 1099511627776)))]
             (.need [(.b (.le (.len (.var 1)) (.lit 1099511627776)))]
             (.calll 11 (.l (.var 0) (.l (.var 1) .nil)) [⟨0, 1⟩, ⟨(-9223372036854775808), 9223372036854775807⟩] [(⟨(-9223372036854775808), 9223372036854775807⟩, 1099511627776)]
             (.ite (.eq (.var 14) (.lit 1))
              (.call 9 (.l (.lit []) (.l (.var 2) .nil)) 1
              (.ite (.eq (.var 16) (.lit 1))
               (.ite (.not (.eq (.var 15) (.var 3)))
                (.fin (.e (.lit 0) .nil))
                (.need [(.pre 13 (.l (.var 6) (.e (.lit 1) .nil)))]
                (.call 13 (.l (.var 6) (.e (.lit 1) .nil)) 1
                (.ite (.lt (.var 17) (.lit 0))
                 (.fin (.e (.lit 0) .nil))
                 (.ite (.not (.eq (.var 17) (.var 12)))
                  (.fin (.e (.lit 0) .nil))
                  (.fin (.e (.lit 1) .nil)))))))
               (.fin (.e (.lit 0) .nil))))
              (.call 9 (.l (.var 7) (.l (.var 2) .nil)) 1
              (.ite (.eq (.var 16) (.lit 1))
               (.ite (.not (.eq (.var 15) (.var 3)))
                (.fin (.e (.lit 0) .nil))
                (.need [(.pre 13 (.l (.var 6) (.e (.lit 1) .nil)))]
                (.call 13 (.l (.var 6) (.e (.lit 1) .nil)) 1
                (.ite (.lt (.var 17) (.lit 0))
                 (.fin (.e (.lit 0) .nil))
                 (.ite (.not (.eq (.var 17) (.var 12)))
                  (.fin (.e (.lit 0) .nil))
                  (.fin (.e (.lit 1) .nil)))))))
               (.fin (.e (.lit 0) .nil))))))))))))))
           (.fin (.e (.lit 0) .nil))))
          (.fin (.e (.lit 0) .nil))))))))))))))
      (.fin (.e (.lit 0) .nil))))))))))))))))
theorem vc4 : vcOfI ⟨c4, []⟩ iv4 (parLvs s4.params) 250 Try.f4 s4 = t4 := by kernel_rfl
set_option linter.unusedVariables false in
def p4 (T : Tab) (I : Nat → Env → Env → Prop) (M : Nat → Env → Env → Nat) (pre : Nat → List Int → List (List Int) → Prop) (post : List Int → List (List Int) → Prop) (l0 l1 : List Int) : Prop :=
 ∀ v0 : Int, [v0] = T.outL 5 1 [1048576] [l0] →
 ((decide ((v0 : Int) < 0) = true →
  post [1] []) ∧ (decide ((v0 : Int) < 0) = false →
  ∀ v1 : Int, [v1] = T.outL 5 1 [v0] [l1] →
  ((decide ((v1 : Int) < 0) = true →
   post [1] []) ∧ (decide ((v1 : Int) < 0) = false →
   ((decide (((List.length l0 : Int) : Int) ≤ 1099511627776) = true) ∧ ((decide (((List.length l0 : Int) : Int) ≤ 1099511627776) = true) →
   ((decide (((List.length l1 : Int) : Int) ≤ 1099511627776) = true) ∧ ((decide (((List.length l1 : Int) : Int) ≤ 1099511627776) = true) →
   ∀ v2 v3 : Int, ∀ l2 : List Int, allHas [⟨0, 1⟩, ⟨(-9223372036854775808), 9223372036854775807⟩] [v2, v3] → allL [(⟨(-9223372036854775808), 9223372036854775807⟩, 1099511627776)] [l2] → ([v2, v3], [l2]) = T.fns 10 [] [l0, l1] →
   ((decide ((v2 : Int) = 1) = true →
    ((decide (((List.length l0 : Int) : Int) ≤ 1099511627776) = true) ∧ ((decide (((List.length l0 : Int) : Int) ≤ 1099511627776) = true) →
    ((decide (((List.length l1 : Int) : Int) ≤ 1099511627776) = true) ∧ ((decide (((List.length l1 : Int) : Int) ≤ 1099511627776) = true) →
    ∀ v4 v5 : Int, ∀ l3 : List Int, allHas [⟨0, 1⟩, ⟨(-9223372036854775808), 9223372036854775807⟩] [v4, v5] → allL [(⟨(-9223372036854775808), 9223372036854775807⟩, 1099511627776)] [l3] → ([v4, v5], [l3]) = T.fns 11 [] [l0, l1] →
    ((decide ((v4 : Int) = 1) = true →
     ∀ v6 : Int, [v6] = T.outL 9 1 [] [([] : List Int), ([] : List Int)] →
     ((decide ((v6 : Int) = 1) = true →
      (((!decide ((v5 : Int) = v3)) = true →
       post [0] []) ∧ ((!decide ((v5 : Int) = v3)) = false →
       ((decide (((List.length l0 : Int) : Int) ≤ 1099511627776) = true) ∧ ((decide (((List.length l0 : Int) : Int) ≤ 1099511627776) = true) →
       ∀ v7 : Int, [v7] = T.outL 9 1 [] [l0, l0] →
       (((!decide ((v7 : Int) = 1)) = true →
        post [0] []) ∧ ((!decide ((v7 : Int) = 1)) = false →
        ((decide (((List.length l1 : Int) : Int) ≤ 1099511627776) = true) ∧ ((decide (((List.length l1 : Int) : Int) ≤ 1099511627776) = true) →
        ∀ v8 : Int, [v8] = T.outL 9 1 [] [l1, l1] →
        (((!decide ((v8 : Int) = 1)) = true →
         post [0] []) ∧ ((!decide ((v8 : Int) = 1)) = false →
         ((pre 12 [1] [l0]) ∧ ((pre 12 [1] [l0]) →
         ∀ v9 : Int, ∀ l4 : List Int, allHas [⟨(-9223372036854775808), 9223372036854775807⟩] [v9] → allL [(⟨(-9223372036854775808), 9223372036854775807⟩, 46116860184273879035)] [l4] → ([v9], [l4]) = T.fns 12 [1] [l0] →
         ((pre 12 [v9] [l1]) ∧ ((pre 12 [v9] [l1]) →
         ∀ v10 : Int, ∀ l5 : List Int, allHas [⟨(-9223372036854775808), 9223372036854775807⟩] [v10] → allL [(⟨(-9223372036854775808), 9223372036854775807⟩, 46116860184273879035)] [l5] → ([v10], [l5]) = T.fns 12 [v9] [l1] →
         ((decide ((0 : Int) ≤ v10) = true →
          ∀ v11 : Int, [v11] = T.outL 9 1 [] [([] : List Int), ([] : List Int)] →
          ((decide ((v11 : Int) = 1) = true →
           ((pre 12 [1] [([] : List Int)]) ∧ ((pre 12 [1] [([] : List Int)]) →
           ∀ v12 : Int, ∀ l6 : List Int, allHas [⟨(-9223372036854775808), 9223372036854775807⟩] [v12] → allL [(⟨(-9223372036854775808), 9223372036854775807⟩, 46116860184273879035)] [l6] → ([v12], [l6]) = T.fns 12 [1] [([] : List Int)] →
           ((pre 13 [1] [([] : List Int)]) ∧ ((pre 13 [1] [([] : List Int)]) →
           ∀ v13 : Int, [v13] = T.outL 13 1 [1] [([] : List Int)] →
           ((decide ((v13 : Int) < 0) = true →
            post [0] []) ∧ (decide ((v13 : Int) < 0) = false →
            (((!decide ((v13 : Int) = v12)) = true →
             post [0] []) ∧ ((!decide ((v13 : Int) = v12)) = false →
             ((decide (((List.length l0 : Int) : Int) ≤ 1099511627776) = true) ∧ ((decide (((List.length l0 : Int) : Int) ≤ 1099511627776) = true) →
             ((decide (((List.length l1 : Int) : Int) ≤ 1099511627776) = true) ∧ ((decide (((List.length l1 : Int) : Int) ≤ 1099511627776) = true) →
             ∀ v14 v15 : Int, ∀ l7 : List Int, allHas [⟨0, 1⟩, ⟨(-9223372036854775808), 9223372036854775807⟩] [v14, v15] → allL [(⟨(-9223372036854775808), 9223372036854775807⟩, 1099511627776)] [l7] → ([v14, v15], [l7]) = T.fns 11 [] [l0, l1] →
             ((decide ((v14 : Int) = 1) = true →
              ∀ v16 : Int, [v16] = T.outL 9 1 [] [([] : List Int), ([] : List Int)] →
              ((decide ((v16 : Int) = 1) = true →
               (((!decide ((v15 : Int) = v3)) = true →
                post [0] []) ∧ ((!decide ((v15 : Int) = v3)) = false →
                ((pre 13 [1] [([] : List Int)]) ∧ ((pre 13 [1] [([] : List Int)]) →
                ∀ v17 : Int, [v17] = T.outL 13 1 [1] [([] : List Int)] →
                ((decide ((v17 : Int) < 0) = true →
                 post [0] []) ∧ (decide ((v17 : Int) < 0) = false →
                 (((!decide ((v17 : Int) = v12)) = true →
                  post [0] []) ∧ ((!decide ((v17 : Int) = v12)) = false →
                  post [1] []))))))))) ∧ (decide ((v16 : Int) = 1) = false →
               post [0] []))) ∧ (decide ((v14 : Int) = 1) = false →
              ∀ v16 : Int, [v16] = T.outL 9 1 [] [l7, ([] : List Int)] →
              ((decide ((v16 : Int) = 1) = true →
               (((!decide ((v15 : Int) = v3)) = true →
                post [0] []) ∧ ((!decide ((v15 : Int) = v3)) = false →
                ((pre 13 [1] [([] : List Int)]) ∧ ((pre 13 [1] [([] : List Int)]) →
                ∀ v17 : Int, [v17] = T.outL 13 1 [1] [([] : List Int)] →
                ((decide ((v17 : Int) < 0) = true →
                 post [0] []) ∧ (decide ((v17 : Int) < 0) = false →
                 (((!decide ((v17 : Int) = v12)) = true →
                  post [0] []) ∧ ((!decide ((v17 : Int) = v12)) = false →
                  post [1] []))))))))) ∧ (decide ((v16 : Int) = 1) = false →
               post [0] []))))))))))))))))) ∧ (decide ((v11 : Int) = 1) = false →
           post [0] []))) ∧ (decide ((0 : Int) ≤ v10) = false →
          post [0] []))))))))))))))))) ∧ (decide ((v6 : Int) = 1) = false →
      post [0] []))) ∧ (decide ((v4 : Int) = 1) = false →
     ∀ v6 : Int, [v6] = T.outL 9 1 [] [l3, ([] : List Int)] →
     ((decide ((v6 : Int) = 1) = true →
      (((!decide ((v5 : Int) = v3)) = true →
       post [0] []) ∧ ((!decide ((v5 : Int) = v3)) = false →
       ((decide (((List.length l0 : Int) : Int) ≤ 1099511627776) = true) ∧ ((decide (((List.length l0 : Int) : Int) ≤ 1099511627776) = true) →
       ∀ v7 : Int, [v7] = T.outL 9 1 [] [l0, l0] →
       (((!decide ((v7 : Int) = 1)) = true →
        post [0] []) ∧ ((!decide ((v7 : Int) = 1)) = false →
        ((decide (((List.length l1 : Int) : Int) ≤ 1099511627776) = true) ∧ ((decide (((List.length l1 : Int) : Int) ≤ 1099511627776) = true) →
        ∀ v8 : Int, [v8] = T.outL 9 1 [] [l1, l1] →
        (((!decide ((v8 : Int) = 1)) = true →
         post [0] []) ∧ ((!decide ((v8 : Int) = 1)) = false →
         ((pre 12 [1] [l0]) ∧ ((pre 12 [1] [l0]) →
         ∀ v9 : Int, ∀ l4 : List Int, allHas [⟨(-9223372036854775808), 9223372036854775807⟩] [v9] → allL [(⟨(-9223372036854775808), 9223372036854775807⟩, 46116860184273879035)] [l4] → ([v9], [l4]) = T.fns 12 [1] [l0] →
         ((pre 12 [v9] [l1]) ∧ ((pre 12 [v9] [l1]) →
         ∀ v10 : Int, ∀ l5 : List Int, allHas [⟨(-9223372036854775808), 9223372036854775807⟩] [v10] → allL [(⟨(-9223372036854775808), 9223372036854775807⟩, 46116860184273879035)] [l5] → ([v10], [l5]) = T.fns 12 [v9] [l1] →
         ((decide ((0 : Int) ≤ v10) = true →
          ∀ v11 : Int, [v11] = T.outL 9 1 [] [l3, ([] : List Int)] →
          ((decide ((v11 : Int) = 1) = true →
           ((pre 12 [1] [l3]) ∧ ((pre 12 [1] [l3]) →
           ∀ v12 : Int, ∀ l6 : List Int, allHas [⟨(-9223372036854775808), 9223372036854775807⟩] [v12] → allL [(⟨(-9223372036854775808), 9223372036854775807⟩, 46116860184273879035)] [l6] → ([v12], [l6]) = T.fns 12 [1] [l3] →
           ((pre 13 [1] [l6]) ∧ ((pre 13 [1] [l6]) →
           ∀ v13 : Int, [v13] = T.outL 13 1 [1] [l6] →
           ((decide ((v13 : Int) < 0) = true →
            post [0] []) ∧ (decide ((v13 : Int) < 0) = false →
            (((!decide ((v13 : Int) = v12)) = true →
             post [0] []) ∧ ((!decide ((v13 : Int) = v12)) = false →
             ((decide (((List.length l0 : Int) : Int) ≤ 1099511627776) = true) ∧ ((decide (((List.length l0 : Int) : Int) ≤ 1099511627776) = true) →
             ((decide (((List.length l1 : Int) : Int) ≤ 1099511627776) = true) ∧ ((decide (((List.length l1 : Int) : Int) ≤ 1099511627776) = true) →
             ∀ v14 v15 : Int, ∀ l7 : List Int, allHas [⟨0, 1⟩, ⟨(-9223372036854775808), 9223372036854775807⟩] [v14, v15] → allL [(⟨(-9223372036854775808), 9223372036854775807⟩, 1099511627776)] [l7] → ([v14, v15], [l7]) = T.fns 11 [] [l0, l1] →
             ((decide ((v14 : Int) = 1) = true →
              ∀ v16 : Int, [v16] = T.outL 9 1 [] [([] : List Int), ([] : List Int)] →
              ((decide ((v16 : Int) = 1) = true →
               (((!decide ((v15 : Int) = v3)) = true →
                post [0] []) ∧ ((!decide ((v15 : Int) = v3)) = false →
                ((pre 13 [1] [l6]) ∧ ((pre 13 [1] [l6]) →
                ∀ v17 : Int, [v17] = T.outL 13 1 [1] [l6] →
                ((decide ((v17 : Int) < 0) = true →
                 post [0] []) ∧ (decide ((v17 : Int) < 0) = false →
                 (((!decide ((v17 : Int) = v12)) = true →
                  post [0] []) ∧ ((!decide ((v17 : Int) = v12)) = false →
                  post [1] []))))))))) ∧ (decide ((v16 : Int) = 1) = false →
               post [0] []))) ∧ (decide ((v14 : Int) = 1) = false →
              ∀ v16 : Int, [v16] = T.outL 9 1 [] [l7, ([] : List Int)] →
              ((decide ((v16 : Int) = 1) = true →
               (((!decide ((v15 : Int) = v3)) = true →
                post [0] []) ∧ ((!decide ((v15 : Int) = v3)) = false →
                ((pre 13 [1] [l6]) ∧ ((pre 13 [1] [l6]) →
                ∀ v17 : Int, [v17] = T.outL 13 1 [1] [l6] →
                ((decide ((v17 : Int) < 0) = true →
                 post [0] []) ∧ (decide ((v17 : Int) < 0) = false →
                 (((!decide ((v17 : Int) = v12)) = true →
                  post [0] []) ∧ ((!decide ((v17 : Int) = v12)) = false →
                  post [1] []))))))))) ∧ (decide ((v16 : Int) = 1) = false →
               post [0] []))))))))))))))))) ∧ (decide ((v11 : Int) = 1) = false →
           post [0] []))) ∧ (decide ((0 : Int) ≤ v10) = false →
          post [0] []))))))))))))))))) ∧ (decide ((v6 : Int) = 1) = false →
      post [0] []))))))))) ∧ (decide ((v2 : Int) = 1) = false →
    ((decide (((List.length l0 : Int) : Int) ≤ 1099511627776) = true) ∧ ((decide (((List.length l0 : Int) : Int) ≤ 1099511627776) = true) →
    ((decide (((List.length l1 : Int) : Int) ≤ 1099511627776) = true) ∧ ((decide (((List.length l1 : Int) : Int) ≤ 1099511627776) = true) →
    ∀ v4 v5 : Int, ∀ l3 : List Int, allHas [⟨0, 1⟩, ⟨(-9223372036854775808), 9223372036854775807⟩] [v4, v5] → allL [(⟨(-9223372036854775808), 9223372036854775807⟩, 1099511627776)] [l3] → ([v4, v5], [l3]) = T.fns 11 [] [l0, l1] →
    ((decide ((v4 : Int) = 1) = true →
     ∀ v6 : Int, [v6] = T.outL 9 1 [] [([] : List Int), l2] →
     ((decide ((v6 : Int) = 1) = true →
      (((!decide ((v5 : Int) = v3)) = true →
       post [0] []) ∧ ((!decide ((v5 : Int) = v3)) = false →
       ((decide (((List.length l0 : Int) : Int) ≤ 1099511627776) = true) ∧ ((decide (((List.length l0 : Int) : Int) ≤ 1099511627776) = true) →
       ∀ v7 : Int, [v7] = T.outL 9 1 [] [l0, l0] →
       (((!decide ((v7 : Int) = 1)) = true →
        post [0] []) ∧ ((!decide ((v7 : Int) = 1)) = false →
        ((decide (((List.length l1 : Int) : Int) ≤ 1099511627776) = true) ∧ ((decide (((List.length l1 : Int) : Int) ≤ 1099511627776) = true) →
        ∀ v8 : Int, [v8] = T.outL 9 1 [] [l1, l1] →
        (((!decide ((v8 : Int) = 1)) = true →
         post [0] []) ∧ ((!decide ((v8 : Int) = 1)) = false →
         ((pre 12 [1] [l0]) ∧ ((pre 12 [1] [l0]) →
         ∀ v9 : Int, ∀ l4 : List Int, allHas [⟨(-9223372036854775808), 9223372036854775807⟩] [v9] → allL [(⟨(-9223372036854775808), 9223372036854775807⟩, 46116860184273879035)] [l4] → ([v9], [l4]) = T.fns 12 [1] [l0] →
         ((pre 12 [v9] [l1]) ∧ ((pre 12 [v9] [l1]) →
         ∀ v10 : Int, ∀ l5 : List Int, allHas [⟨(-9223372036854775808), 9223372036854775807⟩] [v10] → allL [(⟨(-9223372036854775808), 9223372036854775807⟩, 46116860184273879035)] [l5] → ([v10], [l5]) = T.fns 12 [v9] [l1] →
         ((decide ((0 : Int) ≤ v10) = true →
          ∀ v11 : Int, [v11] = T.outL 9 1 [] [([] : List Int), l2] →
          ((decide ((v11 : Int) = 1) = true →
           ((pre 12 [1] [([] : List Int)]) ∧ ((pre 12 [1] [([] : List Int)]) →
           ∀ v12 : Int, ∀ l6 : List Int, allHas [⟨(-9223372036854775808), 9223372036854775807⟩] [v12] → allL [(⟨(-9223372036854775808), 9223372036854775807⟩, 46116860184273879035)] [l6] → ([v12], [l6]) = T.fns 12 [1] [([] : List Int)] →
           ((pre 13 [1] [([] : List Int)]) ∧ ((pre 13 [1] [([] : List Int)]) →
           ∀ v13 : Int, [v13] = T.outL 13 1 [1] [([] : List Int)] →
           ((decide ((v13 : Int) < 0) = true →
            post [0] []) ∧ (decide ((v13 : Int) < 0) = false →
            (((!decide ((v13 : Int) = v12)) = true →
             post [0] []) ∧ ((!decide ((v13 : Int) = v12)) = false →
             ((decide (((List.length l0 : Int) : Int) ≤ 1099511627776) = true) ∧ ((decide (((List.length l0 : Int) : Int) ≤ 1099511627776) = true) →
             ((decide (((List.length l1 : Int) : Int) ≤ 1099511627776) = true) ∧ ((decide (((List.length l1 : Int) : Int) ≤ 1099511627776) = true) →
             ∀ v14 v15 : Int, ∀ l7 : List Int, allHas [⟨0, 1⟩, ⟨(-9223372036854775808), 9223372036854775807⟩] [v14, v15] → allL [(⟨(-9223372036854775808), 9223372036854775807⟩, 1099511627776)] [l7] → ([v14, v15], [l7]) = T.fns 11 [] [l0, l1] →
             ((decide ((v14 : Int) = 1) = true →
              ∀ v16 : Int, [v16] = T.outL 9 1 [] [([] : List Int), l2] →
              ((decide ((v16 : Int) = 1) = true →
               (((!decide ((v15 : Int) = v3)) = true →
                post [0] []) ∧ ((!decide ((v15 : Int) = v3)) = false →
                ((pre 13 [1] [([] : List Int)]) ∧ ((pre 13 [1] [([] : List Int)]) →
                ∀ v17 : Int, [v17] = T.outL 13 1 [1] [([] : List Int)] →
                ((decide ((v17 : Int) < 0) = true →
                 post [0] []) ∧ (decide ((v17 : Int) < 0) = false →
                 (((!decide ((v17 : Int) = v12)) = true →
                  post [0] []) ∧ ((!decide ((v17 : Int) = v12)) = false →
                  post [1] []))))))))) ∧ (decide ((v16 : Int) = 1) = false →
               post [0] []))) ∧ (decide ((v14 : Int) = 1) = false →
              ∀ v16 : Int, [v16] = T.outL 9 1 [] [l7, l2] →
              ((decide ((v16 : Int) = 1) = true →
               (((!decide ((v15 : Int) = v3)) = true →
                post [0] []) ∧ ((!decide ((v15 : Int) = v3)) = false →
                ((pre 13 [1] [([] : List Int)]) ∧ ((pre 13 [1] [([] : List Int)]) →
                ∀ v17 : Int, [v17] = T.outL 13 1 [1] [([] : List Int)] →
                ((decide ((v17 : Int) < 0) = true →
                 post [0] []) ∧ (decide ((v17 : Int) < 0) = false →
                 (((!decide ((v17 : Int) = v12)) = true →
                  post [0] []) ∧ ((!decide ((v17 : Int) = v12)) = false →
                  post [1] []))))))))) ∧ (decide ((v16 : Int) = 1) = false →
               post [0] []))))))))))))))))) ∧ (decide ((v11 : Int) = 1) = false →
           post [0] []))) ∧ (decide ((0 : Int) ≤ v10) = false →
          post [0] []))))))))))))))))) ∧ (decide ((v6 : Int) = 1) = false →
      post [0] []))) ∧ (decide ((v4 : Int) = 1) = false →
     ∀ v6 : Int, [v6] = T.outL 9 1 [] [l3, l2] →
     ((decide ((v6 : Int) = 1) = true →
      (((!decide ((v5 : Int) = v3)) = true →
       post [0] []) ∧ ((!decide ((v5 : Int) = v3)) = false →
       ((decide (((List.length l0 : Int) : Int) ≤ 1099511627776) = true) ∧ ((decide (((List.length l0 : Int) : Int) ≤ 1099511627776) = true) →
       ∀ v7 : Int, [v7] = T.outL 9 1 [] [l0, l0] →
       (((!decide ((v7 : Int) = 1)) = true →
        post [0] []) ∧ ((!decide ((v7 : Int) = 1)) = false →
        ((decide (((List.length l1 : Int) : Int) ≤ 1099511627776) = true) ∧ ((decide (((List.length l1 : Int) : Int) ≤ 1099511627776) = true) →
        ∀ v8 : Int, [v8] = T.outL 9 1 [] [l1, l1] →
        (((!decide ((v8 : Int) = 1)) = true →
         post [0] []) ∧ ((!decide ((v8 : Int) = 1)) = false →
         ((pre 12 [1] [l0]) ∧ ((pre 12 [1] [l0]) →
         ∀ v9 : Int, ∀ l4 : List Int, allHas [⟨(-9223372036854775808), 9223372036854775807⟩] [v9] → allL [(⟨(-9223372036854775808), 9223372036854775807⟩, 46116860184273879035)] [l4] → ([v9], [l4]) = T.fns 12 [1] [l0] →
         ((pre 12 [v9] [l1]) ∧ ((pre 12 [v9] [l1]) →
         ∀ v10 : Int, ∀ l5 : List Int, allHas [⟨(-9223372036854775808), 9223372036854775807⟩] [v10] → allL [(⟨(-9223372036854775808), 9223372036854775807⟩, 46116860184273879035)] [l5] → ([v10], [l5]) = T.fns 12 [v9] [l1] →
         ((decide ((0 : Int) ≤ v10) = true →
          ∀ v11 : Int, [v11] = T.outL 9 1 [] [l3, l2] →
          ((decide ((v11 : Int) = 1) = true →
           ((pre 12 [1] [l3]) ∧ ((pre 12 [1] [l3]) →
           ∀ v12 : Int, ∀ l6 : List Int, allHas [⟨(-9223372036854775808), 9223372036854775807⟩] [v12] → allL [(⟨(-9223372036854775808), 9223372036854775807⟩, 46116860184273879035)] [l6] → ([v12], [l6]) = T.fns 12 [1] [l3] →
           ((pre 13 [1] [l6]) ∧ ((pre 13 [1] [l6]) →
           ∀ v13 : Int, [v13] = T.outL 13 1 [1] [l6] →
           ((decide ((v13 : Int) < 0) = true →
            post [0] []) ∧ (decide ((v13 : Int) < 0) = false →
            (((!decide ((v13 : Int) = v12)) = true →
             post [0] []) ∧ ((!decide ((v13 : Int) = v12)) = false →
             ((decide (((List.length l0 : Int) : Int) ≤ 1099511627776) = true) ∧ ((decide (((List.length l0 : Int) : Int) ≤ 1099511627776) = true) →
             ((decide (((List.length l1 : Int) : Int) ≤ 1099511627776) = true) ∧ ((decide (((List.length l1 : Int) : Int) ≤ 1099511627776) = true) →
             ∀ v14 v15 : Int, ∀ l7 : List Int, allHas [⟨0, 1⟩, ⟨(-9223372036854775808), 9223372036854775807⟩] [v14, v15] → allL [(⟨(-9223372036854775808), 9223372036854775807⟩, 1099511627776)] [l7] → ([v14, v15], [l7]) = T.fns 11 [] [l0, l1] →
             ((decide ((v14 : Int) = 1) = true →
              ∀ v16 : Int, [v16] = T.outL 9 1 [] [([] : List Int), l2] →
              ((decide ((v16 : Int) = 1) = true →
               (((!decide ((v15 : Int) = v3)) = true →
                post [0] []) ∧ ((!decide ((v15 : Int) = v3)) = false →
                ((pre 13 [1] [l6]) ∧ ((pre 13 [1] [l6]) →
                ∀ v17 : Int, [v17] = T.outL 13 1 [1] [l6] →
                ((decide ((v17 : Int) < 0) = true →
                 post [0] []) ∧ (decide ((v17 : Int) < 0) = false →
                 (((!decide ((v17 : Int) = v12)) = true →
                  post [0] []) ∧ ((!decide ((v17 : Int) = v12)) = false →
                  post [1] []))))))))) ∧ (decide ((v16 : Int) = 1) = false →
               post [0] []))) ∧ (decide ((v14 : Int) = 1) = false →
              ∀ v16 : Int, [v16] = T.outL 9 1 [] [l7, l2] →
              ((decide ((v16 : Int) = 1) = true →
               (((!decide ((v15 : Int) = v3)) = true →
                post [0] []) ∧ ((!decide ((v15 : Int) = v3)) = false →
                ((pre 13 [1] [l6]) ∧ ((pre 13 [1] [l6]) →
                ∀ v17 : Int, [v17] = T.outL 13 1 [1] [l6] →
                ((decide ((v17 : Int) < 0) = true →
                 post [0] []) ∧ (decide ((v17 : Int) < 0) = false →
                 (((!decide ((v17 : Int) = v12)) = true →
                  post [0] []) ∧ ((!decide ((v17 : Int) = v12)) = false →
                  post [1] []))))))))) ∧ (decide ((v16 : Int) = 1) = false →
               post [0] []))))))))))))))))) ∧ (decide ((v11 : Int) = 1) = false →
           post [0] []))) ∧ (decide ((0 : Int) ≤ v10) = false →
          post [0] []))))))))))))))))) ∧ (decide ((v6 : Int) = 1) = false →
      post [0] []))))))))))))))))))
theorem q4 (T : Tab) (I : Nat → Env → Env → Prop) (M : Nat → Env → Env → Nat) (pre : Nat → List Int → List (List Int) → Prop) (post : List Int → List (List Int) → Prop) (l0 l1 : List Int) : t4.plain T (presG pre I M) post ⟨[], [l0, l1]⟩ = p4 T I M pre post l0 l1 := by kernel_rfl
theorem k4 (T : Tab) (I : Nat → Env → Env → Prop) (M : Nat → Env → Env → Nat) (pre : Nat → List Int → List (List Int) → Prop) (hs : SubSig T c4.sigs) (ht : TotG pre c4.sigs) (hg : T.sig 4 = some s4) (hC : CtAll Try.prog T.fns (presQ pre) c4.pfs c4.pty c4.cls c4.sigs) (hk : CpAll Try.prog c4.cps) (hlf : LfAll Try.prog T.fns (presQ pre) c4.lfs) (hwf : WfAll Try.prog T.fns (presQ pre) c4.wfs) (hi : ∀ xs ls, allHas (parIvs s4.params) xs → pre 4 xs ls → allHas iv4 xs)
    (h : ∀ (l0 l1 : List Int), allHas iv4 [] → allL (parLvs s4.params) [l0, l1] → pre 4 [] [l0, l1] → p4 T I M pre (fun ys _ => ys = T.app 4 [] [l0, l1]) l0 l1) : CT Try.prog T.fns (presQ pre) 4 s4 :=
  T.ctg (hlf := hlf) (hwf := hwf) (F := ⟨c4, []⟩) (fuel := 250) vc4 Try.checked.mixed hs ht hg hC hk Try.func4 I M (fun xs ls h1 h2 h3 => ⟨hi xs ls h1 h3, h2⟩) fun xs ls hx hl hp => by
    match xs, ls, hx, hl, hp with
    | [], [l0, l1], hx, hl, hp => rw [q4]; exact h l0 l1 hx hl hp
end Go.Proofs.Ytnnklfkjnhdadaa.Sx
