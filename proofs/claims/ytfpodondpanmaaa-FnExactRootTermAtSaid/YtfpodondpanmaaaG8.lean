import Derived.Test.YtfpodondpanmaaaSxX
import Derived.Test.YtfpodondpanmaaaG1
import Derived.Test.YtfpodondpanmaaaG2
import Derived.Test.YtfpodondpanmaaaChecked
import Derived.KernelRfl
namespace Go.Proofs.Ytfpodondpanmaaa.Sx
open Go Go.RowKit
/-- loop.example/g01242/spec.l04Index -/
def s54 : LSig := ⟨[.val false [.i .i64], .val false [.i .i64], .val false [.i .i64]], [.n false [.i .i64], .l false [[.i64]] [2], .n false [.i .i64]], true⟩
noncomputable def c54 : Cfg := ⟨Try.prog, [(62, s62)], [], [(52, s52)], [], []⟩
def iv54 : List Iv := [⟨(-9223372036854775808), 9223372036854775807⟩, ⟨(-9223372036854775808), 9223372036854775807⟩, ⟨(-9223372036854775808), 9223372036854775807⟩]
def t54 : VC :=
 (.call 62 (.e (.var 0) (.e (.lit 0) (.e (.lit 1000000) .nil))) 1
 (.ite (.eq (.var 3) (.lit 1))
  (.call 62 (.e (.var 1) (.e (.lit 0) (.e (.var 2) .nil))) 1
  (.ite (.not (.eq (.var 4) (.lit 1)))
   (.need []
   (.fin (.e (.lit 0) (.e (.lit 0) (.e (.lit 2) (.l (.lit []) .nil))))))
   (.calll 52 (.e (.var 0) .nil) [⟨0, 1⟩, ⟨(-9223372036854775808), 9223372036854775807⟩, ⟨(-9223372036854775808), 9223372036854775807⟩] [(⟨(-9223372036854775808), 9223372036854775807⟩, 1099511627776)]
   (.ite (.eq (.var 5) (.lit 1))
    (.ite (.eq (.var 7) (.lit 0))
     (.bind (.ite (.lt (.lit 0) (.var 1)) (.lit 6) (.var 7))
     (.fin (.e (.lit 1) (.e (.var 6) (.e (.var 8) (.l (.lit []) .nil))))))
     (.fin (.e (.lit 1) (.e (.var 6) (.e (.var 7) (.l (.lit []) .nil))))))
    (.ite (.eq (.var 7) (.lit 0))
     (.ite (.eq (.len (.var 0)) (.lit 0))
      (.bind (.ite (.lt (.lit 0) (.var 1)) (.lit 6) (.var 7))
      (.need [(.b (.eq (.len (.var 0)) (.len (.var 0))))]
      (.fin (.e (.lit 0) (.e (.var 6) (.e (.var 8) (.l (.var 0) .nil)))))))
      (.need [(.b (.eq (.len (.var 0)) (.len (.var 0))))]
      (.fin (.e (.lit 0) (.e (.var 6) (.e (.var 7) (.l (.var 0) .nil)))))))
     (.need [(.b (.eq (.len (.var 0)) (.len (.var 0))))]
     (.fin (.e (.lit 0) (.e (.var 6) (.e (.var 7) (.l (.var 0) .nil)))))))))))
  (.need []
  (.fin (.e (.lit 0) (.e (.lit 0) (.e (.lit 2) (.l (.lit []) .nil))))))))
theorem vc54 : vcLf ⟨c54, []⟩ iv54 (parLvs s54.params) 250 Try.f54 s54 = t54 := by kernel_rfl
set_option linter.unusedVariables false in
def p54 (T : Tab) (I : Nat → Env → Env → Prop) (M : Nat → Env → Env → Nat) (pre : Nat → List Int → List (List Int) → Prop) (post : List Int → List (List Int) → Prop) (v0 v1 v2 : Int) : Prop :=
 ∀ v3 : Int, [v3] = T.out 62 1 [v0, 0, 1000000] →
 ((decide ((v3 : Int) = 1) = true →
  ∀ v4 : Int, [v4] = T.out 62 1 [v1, 0, v2] →
  (((!decide ((v4 : Int) = 1)) = true →
   ((True) ∧ ((True) →
   post [0, 0, 2] [([] : List Int)]))) ∧ ((!decide ((v4 : Int) = 1)) = false →
   ∀ v5 v6 v7 : Int, ∀ l0 : List Int, allHas [⟨0, 1⟩, ⟨(-9223372036854775808), 9223372036854775807⟩, ⟨(-9223372036854775808), 9223372036854775807⟩] [v5, v6, v7] → allL [(⟨(-9223372036854775808), 9223372036854775807⟩, 1099511627776)] [l0] → ([v5, v6, v7], [l0]) = T.fns 52 [v0] [] →
   ((decide ((v5 : Int) = 1) = true →
    ((decide ((v7 : Int) = 0) = true →
     ∀ v8 : Int, v8 = (if decide ((0 : Int) < v1) = true then 6 else v7) →
     post [1, v6, v8] [([] : List Int)]) ∧ (decide ((v7 : Int) = 0) = false →
     post [1, v6, v7] [([] : List Int)]))) ∧ (decide ((v5 : Int) = 1) = false →
    ((decide ((v7 : Int) = 0) = true →
     ((decide (((List.length l0 : Int) : Int) = 0) = true →
      ∀ v8 : Int, v8 = (if decide ((0 : Int) < v1) = true then 6 else v7) →
      ((decide (((List.length l0 : Int) : Int) = (List.length l0 : Int)) = true) ∧ ((decide (((List.length l0 : Int) : Int) = (List.length l0 : Int)) = true) →
      post [0, v6, v8] [l0]))) ∧ (decide (((List.length l0 : Int) : Int) = 0) = false →
      ((decide (((List.length l0 : Int) : Int) = (List.length l0 : Int)) = true) ∧ ((decide (((List.length l0 : Int) : Int) = (List.length l0 : Int)) = true) →
      post [0, v6, v7] [l0]))))) ∧ (decide ((v7 : Int) = 0) = false →
     ((decide (((List.length l0 : Int) : Int) = (List.length l0 : Int)) = true) ∧ ((decide (((List.length l0 : Int) : Int) = (List.length l0 : Int)) = true) →
     post [0, v6, v7] [l0]))))))))) ∧ (decide ((v3 : Int) = 1) = false →
  ((True) ∧ ((True) →
  post [0, 0, 2] [([] : List Int)]))))
theorem q54 (T : Tab) (I : Nat → Env → Env → Prop) (M : Nat → Env → Env → Nat) (pre : Nat → List Int → List (List Int) → Prop) (post : List Int → List (List Int) → Prop) (v0 v1 v2 : Int) : t54.plain T (presG pre I M) post ⟨[v0, v1, v2], []⟩ = p54 T I M pre post v0 v1 v2 := by kernel_rfl
theorem k54 (T : Tab) (I : Nat → Env → Env → Prop) (M : Nat → Env → Env → Nat) (pre : Nat → List Int → List (List Int) → Prop) (hs : SubSig T c54.sigs) (ht : TotG pre c54.sigs) (hC : CtAll Try.prog T.fns (presQ pre) c54.sigs) (hk : CpAll Try.prog c54.cps) (hlf : LfAll Try.prog T.fns (presQ pre) c54.lfs) (hi : ∀ xs ls, allHas (parIvs s54.params) xs → pre 54 xs ls → allHas iv54 xs)
    (h : ∀ (v0 v1 v2 : Int), allHas iv54 [v0, v1, v2] → allL (parLvs s54.params) [] → pre 54 [v0, v1, v2] [] → p54 T I M pre (fun ys zs => T.fns 54 [v0, v1, v2] [] = (ys, zs)) v0 v1 v2) : CTL Try.prog T.fns (presQ pre) 54 s54 :=
  T.ctl (hlf := hlf) (F := ⟨c54, []⟩) (fuel := 250) vc54 Try.checked.mixed hs ht hC hk Try.func54 I M (fun xs ls h1 h2 h3 => ⟨hi xs ls h1 h3, h2⟩) fun xs ls hx hl hp => by
    match xs, ls, hx, hl, hp with
    | [v0, v1, v2], [], hx, hl, hp => rw [q54]; exact h v0 v1 v2 hx hl hp
/-- loop.example/g01242/spec.l04RootAt -/
def s55 : Sig := ⟨[.val false [.i .i64], .lst [.i64], .val false [.i .i64]], [(false, [.i .i64])], false⟩
noncomputable def c55 : Cfg := ⟨Try.prog, [], [], [], [], []⟩
def iv55 : List Iv := [⟨(-9223372036854775808), 9223372036854775807⟩, ⟨(-9223372036854775808), 9223372036854775807⟩]
def t55 : VC :=
 (.ite (.eq (.var 1) (.lit 0))
  (.fin (.e (.var 0) .nil))
  (.need [(.b (.not (.eq (.len (.var 0)) (.lit 0))))]
  (.need [(.b (.le (.lit 0) (.tmod (.wrap .i64 (.sub (.var 1) (.lit 1))) (.len (.var 0))))), (.b (.lt (.tmod (.wrap .i64 (.sub (.var 1) (.lit 1))) (.len (.var 0))) (.len (.var 0))))]
  (.need [(.b (.lt (.add (.lit 0) (.tmod (.wrap .i64 (.sub (.var 1) (.lit 1))) (.len (.var 0)))) (.len (.var 0))))]
  (.bind (.at (.var 0) (.add (.lit 0) (.tmod (.wrap .i64 (.sub (.var 1) (.lit 1))) (.len (.var 0)))))
  (.fin (.e (.var 2) .nil)))))))
theorem vc55 : vcOfI ⟨c55, []⟩ iv55 (parLvs s55.params) 250 Try.f55 s55 = t55 := by kernel_rfl
set_option linter.unusedVariables false in
def p55 (T : Tab) (I : Nat → Env → Env → Prop) (M : Nat → Env → Env → Nat) (pre : Nat → List Int → List (List Int) → Prop) (post : List Int → List (List Int) → Prop) (v0 v1 : Int) (l0 : List Int) : Prop :=
 ((decide ((v1 : Int) = 0) = true →
  post [v0] []) ∧ (decide ((v1 : Int) = 0) = false →
  (((!decide (((List.length l0 : Int) : Int) = 0)) = true) ∧ (((!decide (((List.length l0 : Int) : Int) = 0)) = true) →
  ((decide ((0 : Int) ≤ (Int.tmod (IntKind.wrap .i64 (v1 - 1)) (List.length l0 : Int))) = true ∧ decide (((Int.tmod (IntKind.wrap .i64 (v1 - 1)) (List.length l0 : Int)) : Int) < (List.length l0 : Int)) = true) ∧ ((decide ((0 : Int) ≤ (Int.tmod (IntKind.wrap .i64 (v1 - 1)) (List.length l0 : Int))) = true ∧ decide (((Int.tmod (IntKind.wrap .i64 (v1 - 1)) (List.length l0 : Int)) : Int) < (List.length l0 : Int)) = true) →
  ((decide (((0 + (Int.tmod (IntKind.wrap .i64 (v1 - 1)) (List.length l0 : Int))) : Int) < (List.length l0 : Int)) = true) ∧ ((decide (((0 + (Int.tmod (IntKind.wrap .i64 (v1 - 1)) (List.length l0 : Int))) : Int) < (List.length l0 : Int)) = true) →
  ∀ v2 : Int, v2 = (List.getD l0 (Int.toNat (0 + (Int.tmod (IntKind.wrap .i64 (v1 - 1)) (List.length l0 : Int)))) 0) →
  post [v2] []))))))))
theorem q55 (T : Tab) (I : Nat → Env → Env → Prop) (M : Nat → Env → Env → Nat) (pre : Nat → List Int → List (List Int) → Prop) (post : List Int → List (List Int) → Prop) (v0 v1 : Int) (l0 : List Int) : t55.plain T (presG pre I M) post ⟨[v0, v1], [l0]⟩ = p55 T I M pre post v0 v1 l0 := by kernel_rfl
theorem k55 (T : Tab) (I : Nat → Env → Env → Prop) (M : Nat → Env → Env → Nat) (pre : Nat → List Int → List (List Int) → Prop) (hs : SubSig T c55.sigs) (ht : TotG pre c55.sigs) (hg : T.sig 55 = some s55) (hC : CtAll Try.prog T.fns (presQ pre) c55.sigs) (hk : CpAll Try.prog c55.cps) (hi : ∀ xs ls, allHas (parIvs s55.params) xs → pre 55 xs ls → allHas iv55 xs)
    (h : ∀ (v0 v1 : Int) (l0 : List Int), allHas iv55 [v0, v1] → allL (parLvs s55.params) [l0] → pre 55 [v0, v1] [l0] → p55 T I M pre (fun ys _ => ys = T.app 55 [v0, v1] [l0]) v0 v1 l0) : CT Try.prog T.fns (presQ pre) 55 s55 :=
  T.ctg (F := ⟨c55, []⟩) (fuel := 250) vc55 Try.checked.mixed hs ht hg hC hk Try.func55 I M (fun xs ls h1 h2 h3 => ⟨hi xs ls h1 h3, h2⟩) fun xs ls hx hl hp => by
    match xs, ls, hx, hl, hp with
    | [v0, v1], [l0], hx, hl, hp => rw [q55]; exact h v0 v1 l0 hx hl hp
/-- loop.example/g01242/spec.RootTermAt -/
def s33 : Sig := ⟨[.val false [.i .i64], .val false [.i .i64]], [(false, [.i .i64]), (false, [.i .i64])], true⟩
noncomputable def c33 : Cfg := ⟨Try.prog, [(55, s55)], [], [(54, s54)], [], []⟩
def iv33 : List Iv := [⟨(-9223372036854775808), 9223372036854775807⟩, ⟨(-9223372036854775808), 9223372036854775807⟩]
def t33 : VC :=
 (.calll 54 (.e (.var 0) (.e (.var 1) (.e (.lit 1000000000) .nil))) [⟨0, 1⟩, ⟨(-9223372036854775808), 9223372036854775807⟩, ⟨(-9223372036854775808), 9223372036854775807⟩] [(⟨(-9223372036854775808), 9223372036854775807⟩, 1099511627776)]
 (.ite (.eq (.var 2) (.lit 1))
  (.ite (.not (.eq (.var 4) (.lit 0)))
   (.fin (.e (.lit 0) (.e (.var 4) .nil)))
   (.need [(.pre 55 (.e (.var 3) (.l (.lit []) (.e (.var 1) .nil))))]
   (.call 55 (.e (.var 3) (.l (.lit []) (.e (.var 1) .nil))) 1
   (.fin (.e (.var 5) (.e (.lit 0) .nil))))))
  (.ite (.not (.eq (.var 4) (.lit 0)))
   (.fin (.e (.lit 0) (.e (.var 4) .nil)))
   (.need [(.pre 55 (.e (.var 3) (.l (.var 0) (.e (.var 1) .nil))))]
   (.call 55 (.e (.var 3) (.l (.var 0) (.e (.var 1) .nil))) 1
   (.fin (.e (.var 5) (.e (.lit 0) .nil))))))))
theorem vc33 : vcOfI ⟨c33, []⟩ iv33 (parLvs s33.params) 250 Try.f33 s33 = t33 := by kernel_rfl
set_option linter.unusedVariables false in
def p33 (T : Tab) (I : Nat → Env → Env → Prop) (M : Nat → Env → Env → Nat) (pre : Nat → List Int → List (List Int) → Prop) (post : List Int → List (List Int) → Prop) (v0 v1 : Int) : Prop :=
 ∀ v2 v3 v4 : Int, ∀ l0 : List Int, allHas [⟨0, 1⟩, ⟨(-9223372036854775808), 9223372036854775807⟩, ⟨(-9223372036854775808), 9223372036854775807⟩] [v2, v3, v4] → allL [(⟨(-9223372036854775808), 9223372036854775807⟩, 1099511627776)] [l0] → ([v2, v3, v4], [l0]) = T.fns 54 [v0, v1, 1000000000] [] →
 ((decide ((v2 : Int) = 1) = true →
  (((!decide ((v4 : Int) = 0)) = true →
   post [0, v4] []) ∧ ((!decide ((v4 : Int) = 0)) = false →
   ((pre 55 [v3, v1] [([] : List Int)]) ∧ ((pre 55 [v3, v1] [([] : List Int)]) →
   ∀ v5 : Int, [v5] = T.outL 55 1 [v3, v1] [([] : List Int)] →
   post [v5, 0] []))))) ∧ (decide ((v2 : Int) = 1) = false →
  (((!decide ((v4 : Int) = 0)) = true →
   post [0, v4] []) ∧ ((!decide ((v4 : Int) = 0)) = false →
   ((pre 55 [v3, v1] [l0]) ∧ ((pre 55 [v3, v1] [l0]) →
   ∀ v5 : Int, [v5] = T.outL 55 1 [v3, v1] [l0] →
   post [v5, 0] []))))))
theorem q33 (T : Tab) (I : Nat → Env → Env → Prop) (M : Nat → Env → Env → Nat) (pre : Nat → List Int → List (List Int) → Prop) (post : List Int → List (List Int) → Prop) (v0 v1 : Int) : t33.plain T (presG pre I M) post ⟨[v0, v1], []⟩ = p33 T I M pre post v0 v1 := by kernel_rfl
theorem k33 (T : Tab) (I : Nat → Env → Env → Prop) (M : Nat → Env → Env → Nat) (pre : Nat → List Int → List (List Int) → Prop) (hs : SubSig T c33.sigs) (ht : TotG pre c33.sigs) (hg : T.sig 33 = some s33) (hC : CtAll Try.prog T.fns (presQ pre) c33.sigs) (hk : CpAll Try.prog c33.cps) (hlf : LfAll Try.prog T.fns (presQ pre) c33.lfs) (hi : ∀ xs ls, allHas (parIvs s33.params) xs → pre 33 xs ls → allHas iv33 xs)
    (h : ∀ (v0 v1 : Int), allHas iv33 [v0, v1] → allL (parLvs s33.params) [] → pre 33 [v0, v1] [] → p33 T I M pre (fun ys _ => ys = T.app 33 [v0, v1] []) v0 v1) : CT Try.prog T.fns (presQ pre) 33 s33 :=
  T.ctg (hlf := hlf) (F := ⟨c33, []⟩) (fuel := 250) vc33 Try.checked.mixed hs ht hg hC hk Try.func33 I M (fun xs ls h1 h2 h3 => ⟨hi xs ls h1 h3, h2⟩) fun xs ls hx hl hp => by
    match xs, ls, hx, hl, hp with
    | [v0, v1], [], hx, hl, hp => rw [q33]; exact h v0 v1 hx hl hp
/-- loop.example/g01242/impl.rootUpTo -/
def s56 : LSig := ⟨[.val false [.i .i64], .val false [.i .i64], .val false [.i .i64]], [.m [.i .i64] [[.i64]] [2], .n false [.i .i64]], true⟩
noncomputable def c56 : Cfg := ⟨Try.prog, [], [], [(53, s53)], [], []⟩
def iv56 : List Iv := [⟨(-9223372036854775808), 9223372036854775807⟩, ⟨(-9223372036854775808), 9223372036854775807⟩, ⟨(-9223372036854775808), 9223372036854775807⟩]
def t56 : VC :=
 (.ite (.le (.lit 0) (.var 0))
  (.ite (.le (.var 0) (.lit 1000000))
   (.ite (.le (.lit 0) (.var 1))
    (.ite (.lt (.var 2) (.var 1))
     (.fin (.e (.lit 1) (.e (.lit 0) (.e (.lit 2) (.l (.lit []) .nil)))))
     (.need [(.pre 53 (.e (.var 0) .nil))]
     (.calll 53 (.e (.var 0) .nil) [⟨0, 1⟩, ⟨(-9223372036854775808), 9223372036854775807⟩, ⟨(-9223372036854775808), 9223372036854775807⟩] [(⟨(-9223372036854775808), 9223372036854775807⟩, 1099511627776)]
     (.ite (.eq (.var 3) (.lit 1))
      (.ite (.not (.eq (.var 5) (.lit 0)))
       (.fin (.e (.lit 1) (.e (.lit 0) (.e (.var 5) (.l (.lit []) .nil)))))
       (.ite (.lt (.lit 0) (.var 1))
        (.fin (.e (.lit 1) (.e (.lit 0) (.e (.lit 6) (.l (.lit []) .nil)))))
        (.fin (.e (.lit 1) (.e (.var 4) (.e (.lit 0) (.l (.lit []) .nil)))))))
      (.ite (.not (.eq (.var 5) (.lit 0)))
       (.fin (.e (.lit 1) (.e (.lit 0) (.e (.var 5) (.l (.lit []) .nil)))))
       (.ite (.eq (.len (.var 0)) (.lit 0))
        (.ite (.lt (.lit 0) (.var 1))
         (.fin (.e (.lit 1) (.e (.lit 0) (.e (.lit 6) (.l (.lit []) .nil)))))
         (.need [(.b (.eq (.len (.var 0)) (.len (.var 0))))]
         (.fin (.e (.lit 0) (.e (.var 4) (.e (.lit 0) (.l (.var 0) .nil)))))))
        (.need [(.b (.eq (.len (.var 0)) (.len (.var 0))))]
        (.fin (.e (.lit 0) (.e (.var 4) (.e (.lit 0) (.l (.var 0) .nil))))))))))))
    (.fin (.e (.lit 1) (.e (.lit 0) (.e (.lit 2) (.l (.lit []) .nil))))))
   (.fin (.e (.lit 1) (.e (.lit 0) (.e (.lit 2) (.l (.lit []) .nil))))))
  (.fin (.e (.lit 1) (.e (.lit 0) (.e (.lit 2) (.l (.lit []) .nil))))))
theorem vc56 : vcLf ⟨c56, []⟩ iv56 (parLvs s56.params) 250 Try.f56 s56 = t56 := by kernel_rfl
set_option linter.unusedVariables false in
def p56 (T : Tab) (I : Nat → Env → Env → Prop) (M : Nat → Env → Env → Nat) (pre : Nat → List Int → List (List Int) → Prop) (post : List Int → List (List Int) → Prop) (v0 v1 v2 : Int) : Prop :=
 ((decide ((0 : Int) ≤ v0) = true →
  ((decide ((v0 : Int) ≤ 1000000) = true →
   ((decide ((0 : Int) ≤ v1) = true →
    ((decide ((v2 : Int) < v1) = true →
     post [1, 0, 2] [([] : List Int)]) ∧ (decide ((v2 : Int) < v1) = false →
     ((pre 53 [v0] []) ∧ ((pre 53 [v0] []) →
     ∀ v3 v4 v5 : Int, ∀ l0 : List Int, allHas [⟨0, 1⟩, ⟨(-9223372036854775808), 9223372036854775807⟩, ⟨(-9223372036854775808), 9223372036854775807⟩] [v3, v4, v5] → allL [(⟨(-9223372036854775808), 9223372036854775807⟩, 1099511627776)] [l0] → ([v3, v4, v5], [l0]) = T.fns 53 [v0] [] →
     ((decide ((v3 : Int) = 1) = true →
      (((!decide ((v5 : Int) = 0)) = true →
       post [1, 0, v5] [([] : List Int)]) ∧ ((!decide ((v5 : Int) = 0)) = false →
       ((decide ((0 : Int) < v1) = true →
        post [1, 0, 6] [([] : List Int)]) ∧ (decide ((0 : Int) < v1) = false →
        post [1, v4, 0] [([] : List Int)]))))) ∧ (decide ((v3 : Int) = 1) = false →
      (((!decide ((v5 : Int) = 0)) = true →
       post [1, 0, v5] [([] : List Int)]) ∧ ((!decide ((v5 : Int) = 0)) = false →
       ((decide (((List.length l0 : Int) : Int) = 0) = true →
        ((decide ((0 : Int) < v1) = true →
         post [1, 0, 6] [([] : List Int)]) ∧ (decide ((0 : Int) < v1) = false →
         ((decide (((List.length l0 : Int) : Int) = (List.length l0 : Int)) = true) ∧ ((decide (((List.length l0 : Int) : Int) = (List.length l0 : Int)) = true) →
         post [0, v4, 0] [l0]))))) ∧ (decide (((List.length l0 : Int) : Int) = 0) = false →
        ((decide (((List.length l0 : Int) : Int) = (List.length l0 : Int)) = true) ∧ ((decide (((List.length l0 : Int) : Int) = (List.length l0 : Int)) = true) →
        post [0, v4, 0] [l0]))))))))))))) ∧ (decide ((0 : Int) ≤ v1) = false →
    post [1, 0, 2] [([] : List Int)]))) ∧ (decide ((v0 : Int) ≤ 1000000) = false →
   post [1, 0, 2] [([] : List Int)]))) ∧ (decide ((0 : Int) ≤ v0) = false →
  post [1, 0, 2] [([] : List Int)]))
theorem q56 (T : Tab) (I : Nat → Env → Env → Prop) (M : Nat → Env → Env → Nat) (pre : Nat → List Int → List (List Int) → Prop) (post : List Int → List (List Int) → Prop) (v0 v1 v2 : Int) : t56.plain T (presG pre I M) post ⟨[v0, v1, v2], []⟩ = p56 T I M pre post v0 v1 v2 := by kernel_rfl
theorem k56 (T : Tab) (I : Nat → Env → Env → Prop) (M : Nat → Env → Env → Nat) (pre : Nat → List Int → List (List Int) → Prop) (hs : SubSig T c56.sigs) (ht : TotG pre c56.sigs) (hC : CtAll Try.prog T.fns (presQ pre) c56.sigs) (hk : CpAll Try.prog c56.cps) (hlf : LfAll Try.prog T.fns (presQ pre) c56.lfs) (hi : ∀ xs ls, allHas (parIvs s56.params) xs → pre 56 xs ls → allHas iv56 xs)
    (h : ∀ (v0 v1 v2 : Int), allHas iv56 [v0, v1, v2] → allL (parLvs s56.params) [] → pre 56 [v0, v1, v2] [] → p56 T I M pre (fun ys zs => T.fns 56 [v0, v1, v2] [] = (ys, zs)) v0 v1 v2) : CTL Try.prog T.fns (presQ pre) 56 s56 :=
  T.ctl (hlf := hlf) (F := ⟨c56, []⟩) (fuel := 250) vc56 Try.checked.mixed hs ht hC hk Try.func56 I M (fun xs ls h1 h2 h3 => ⟨hi xs ls h1 h3, h2⟩) fun xs ls hx hl hp => by
    match xs, ls, hx, hl, hp with
    | [v0, v1, v2], [], hx, hl, hp => rw [q56]; exact h v0 v1 v2 hx hl hp
/-- (loop.example/g01242/impl.rooted).term -/
def s57 : Sig := ⟨[.mix [.i .i64] [[.i64]], .val false [.i .i64]], [(false, [.i .i64])], false⟩
noncomputable def c57 : Cfg := ⟨Try.prog, [], [], [], [], []⟩
def iv57 : List Iv := [⟨(-9223372036854775808), 9223372036854775807⟩, ⟨(-9223372036854775808), 9223372036854775807⟩]
def t57 : VC :=
 (.ite (.eq (.var 1) (.lit 0))
  (.fin (.e (.var 0) .nil))
  (.need [(.b (.not (.eq (.len (.var 0)) (.lit 0)))), (.b (.le (.lit 0) (.tmod (.wrap .i64 (.sub (.var 1) (.lit 1))) (.len (.var 0))))), (.b (.lt (.tmod (.wrap .i64 (.sub (.var 1) (.lit 1))) (.len (.var 0))) (.len (.var 0)))), (.b (.lt (.add (.lit 0) (.tmod (.wrap .i64 (.sub (.var 1) (.lit 1))) (.len (.var 0)))) (.len (.var 0))))]
  (.bind (.at (.var 0) (.add (.lit 0) (.tmod (.wrap .i64 (.sub (.var 1) (.lit 1))) (.len (.var 0)))))
  (.bind (.at (.var 0) (.add (.lit 0) (.tmod (.wrap .i64 (.sub (.var 1) (.lit 1))) (.len (.var 0)))))
  (.fin (.e (.var 3) .nil))))))
theorem vc57 : vcOfI ⟨c57, []⟩ iv57 (parLvs s57.params) 250 Try.f57 s57 = t57 := by kernel_rfl
set_option linter.unusedVariables false in
def p57 (T : Tab) (I : Nat → Env → Env → Prop) (M : Nat → Env → Env → Nat) (pre : Nat → List Int → List (List Int) → Prop) (post : List Int → List (List Int) → Prop) (v0 v1 : Int) (l0 : List Int) : Prop :=
 ((decide ((v1 : Int) = 0) = true →
  post [v0] []) ∧ (decide ((v1 : Int) = 0) = false →
  (((!decide (((List.length l0 : Int) : Int) = 0)) = true ∧ decide ((0 : Int) ≤ (Int.tmod (IntKind.wrap .i64 (v1 - 1)) (List.length l0 : Int))) = true ∧ decide (((Int.tmod (IntKind.wrap .i64 (v1 - 1)) (List.length l0 : Int)) : Int) < (List.length l0 : Int)) = true ∧ decide (((0 + (Int.tmod (IntKind.wrap .i64 (v1 - 1)) (List.length l0 : Int))) : Int) < (List.length l0 : Int)) = true) ∧ (((!decide (((List.length l0 : Int) : Int) = 0)) = true ∧ decide ((0 : Int) ≤ (Int.tmod (IntKind.wrap .i64 (v1 - 1)) (List.length l0 : Int))) = true ∧ decide (((Int.tmod (IntKind.wrap .i64 (v1 - 1)) (List.length l0 : Int)) : Int) < (List.length l0 : Int)) = true ∧ decide (((0 + (Int.tmod (IntKind.wrap .i64 (v1 - 1)) (List.length l0 : Int))) : Int) < (List.length l0 : Int)) = true) →
  ∀ v2 : Int, v2 = (List.getD l0 (Int.toNat (0 + (Int.tmod (IntKind.wrap .i64 (v1 - 1)) (List.length l0 : Int)))) 0) →
  ∀ v3 : Int, v3 = (List.getD l0 (Int.toNat (0 + (Int.tmod (IntKind.wrap .i64 (v1 - 1)) (List.length l0 : Int)))) 0) →
  post [v3] []))))
theorem q57 (T : Tab) (I : Nat → Env → Env → Prop) (M : Nat → Env → Env → Nat) (pre : Nat → List Int → List (List Int) → Prop) (post : List Int → List (List Int) → Prop) (v0 v1 : Int) (l0 : List Int) : t57.plain T (presG pre I M) post ⟨[v0, v1], [l0]⟩ = p57 T I M pre post v0 v1 l0 := by kernel_rfl
theorem k57 (T : Tab) (I : Nat → Env → Env → Prop) (M : Nat → Env → Env → Nat) (pre : Nat → List Int → List (List Int) → Prop) (hs : SubSig T c57.sigs) (ht : TotG pre c57.sigs) (hg : T.sig 57 = some s57) (hC : CtAll Try.prog T.fns (presQ pre) c57.sigs) (hk : CpAll Try.prog c57.cps) (hi : ∀ xs ls, allHas (parIvs s57.params) xs → pre 57 xs ls → allHas iv57 xs)
    (h : ∀ (v0 v1 : Int) (l0 : List Int), allHas iv57 [v0, v1] → allL (parLvs s57.params) [l0] → pre 57 [v0, v1] [l0] → p57 T I M pre (fun ys _ => ys = T.app 57 [v0, v1] [l0]) v0 v1 l0) : CT Try.prog T.fns (presQ pre) 57 s57 :=
  T.ctg (F := ⟨c57, []⟩) (fuel := 250) vc57 Try.checked.mixed hs ht hg hC hk Try.func57 I M (fun xs ls h1 h2 h3 => ⟨hi xs ls h1 h3, h2⟩) fun xs ls hx hl hp => by
    match xs, ls, hx, hl, hp with
    | [v0, v1], [l0], hx, hl, hp => rw [q57]; exact h v0 v1 l0 hx hl hp
/-- loop.example/g01242/impl.RootTermAt -/
def s34 : Sig := ⟨[.val false [.i .i64], .val false [.i .i64]], [(false, [.i .i64]), (false, [.i .i64])], true⟩
noncomputable def c34 : Cfg := ⟨Try.prog, [(57, s57)], [], [(56, s56)], [], []⟩
def iv34 : List Iv := [⟨(-9223372036854775808), 9223372036854775807⟩, ⟨(-9223372036854775808), 9223372036854775807⟩]
def t34 : VC :=
 (.calll 56 (.e (.var 0) (.e (.var 1) (.e (.lit 1000000000) .nil))) [⟨0, 1⟩, ⟨(-9223372036854775808), 9223372036854775807⟩, ⟨(-9223372036854775808), 9223372036854775807⟩] [(⟨(-9223372036854775808), 9223372036854775807⟩, 1099511627776)]
 (.ite (.eq (.var 2) (.lit 1))
  (.ite (.not (.eq (.var 4) (.lit 0)))
   (.fin (.e (.lit 0) (.e (.var 4) .nil)))
   (.need [(.pre 57 (.e (.var 3) (.l (.lit []) (.e (.var 1) .nil))))]
   (.call 57 (.e (.var 3) (.l (.lit []) (.e (.var 1) .nil))) 1
   (.fin (.e (.var 5) (.e (.lit 0) .nil))))))
  (.ite (.not (.eq (.var 4) (.lit 0)))
   (.fin (.e (.lit 0) (.e (.var 4) .nil)))
   (.need [(.pre 57 (.e (.var 3) (.l (.var 0) (.e (.var 1) .nil))))]
   (.call 57 (.e (.var 3) (.l (.var 0) (.e (.var 1) .nil))) 1
   (.fin (.e (.var 5) (.e (.lit 0) .nil))))))))
theorem vc34 : vcOfI ⟨c34, []⟩ iv34 (parLvs s34.params) 250 Try.f34 s34 = t34 := by kernel_rfl
set_option linter.unusedVariables false in
def p34 (T : Tab) (I : Nat → Env → Env → Prop) (M : Nat → Env → Env → Nat) (pre : Nat → List Int → List (List Int) → Prop) (post : List Int → List (List Int) → Prop) (v0 v1 : Int) : Prop :=
 ∀ v2 v3 v4 : Int, ∀ l0 : List Int, allHas [⟨0, 1⟩, ⟨(-9223372036854775808), 9223372036854775807⟩, ⟨(-9223372036854775808), 9223372036854775807⟩] [v2, v3, v4] → allL [(⟨(-9223372036854775808), 9223372036854775807⟩, 1099511627776)] [l0] → ([v2, v3, v4], [l0]) = T.fns 56 [v0, v1, 1000000000] [] →
 ((decide ((v2 : Int) = 1) = true →
  (((!decide ((v4 : Int) = 0)) = true →
   post [0, v4] []) ∧ ((!decide ((v4 : Int) = 0)) = false →
   ((pre 57 [v3, v1] [([] : List Int)]) ∧ ((pre 57 [v3, v1] [([] : List Int)]) →
   ∀ v5 : Int, [v5] = T.outL 57 1 [v3, v1] [([] : List Int)] →
   post [v5, 0] []))))) ∧ (decide ((v2 : Int) = 1) = false →
  (((!decide ((v4 : Int) = 0)) = true →
   post [0, v4] []) ∧ ((!decide ((v4 : Int) = 0)) = false →
   ((pre 57 [v3, v1] [l0]) ∧ ((pre 57 [v3, v1] [l0]) →
   ∀ v5 : Int, [v5] = T.outL 57 1 [v3, v1] [l0] →
   post [v5, 0] []))))))
theorem q34 (T : Tab) (I : Nat → Env → Env → Prop) (M : Nat → Env → Env → Nat) (pre : Nat → List Int → List (List Int) → Prop) (post : List Int → List (List Int) → Prop) (v0 v1 : Int) : t34.plain T (presG pre I M) post ⟨[v0, v1], []⟩ = p34 T I M pre post v0 v1 := by kernel_rfl
theorem k34 (T : Tab) (I : Nat → Env → Env → Prop) (M : Nat → Env → Env → Nat) (pre : Nat → List Int → List (List Int) → Prop) (hs : SubSig T c34.sigs) (ht : TotG pre c34.sigs) (hg : T.sig 34 = some s34) (hC : CtAll Try.prog T.fns (presQ pre) c34.sigs) (hk : CpAll Try.prog c34.cps) (hlf : LfAll Try.prog T.fns (presQ pre) c34.lfs) (hi : ∀ xs ls, allHas (parIvs s34.params) xs → pre 34 xs ls → allHas iv34 xs)
    (h : ∀ (v0 v1 : Int), allHas iv34 [v0, v1] → allL (parLvs s34.params) [] → pre 34 [v0, v1] [] → p34 T I M pre (fun ys _ => ys = T.app 34 [v0, v1] []) v0 v1) : CT Try.prog T.fns (presQ pre) 34 s34 :=
  T.ctg (hlf := hlf) (F := ⟨c34, []⟩) (fuel := 250) vc34 Try.checked.mixed hs ht hg hC hk Try.func34 I M (fun xs ls h1 h2 h3 => ⟨hi xs ls h1 h3, h2⟩) fun xs ls hx hl hp => by
    match xs, ls, hx, hl, hp with
    | [v0, v1], [], hx, hl, hp => rw [q34]; exact h v0 v1 hx hl hp
/-- loop.example/g01242/laws.FnExactRootTermAt -/
def s10 : Sig := ⟨[.val false [.i .i64], .val false [.i .i64]], [(false, [.b])], true⟩
noncomputable def c10 : Cfg := ⟨Try.prog, [(33, s33), (34, s34)], [], [], [], []⟩
def iv10 : List Iv := [⟨(-9223372036854775808), 9223372036854775807⟩, ⟨(-9223372036854775808), 9223372036854775807⟩]
def t10 : VC :=
 (.call 33 (.e (.var 0) (.e (.var 1) .nil)) 2
 (.call 34 (.e (.var 0) (.e (.var 1) .nil)) 2
 (.ite (.eq (.var 4) (.var 2))
  (.ite (.not (.eq (.var 5) (.var 3)))
   (.fin (.e (.lit 0) .nil))
   (.fin (.e (.lit 1) .nil)))
  (.fin (.e (.lit 0) .nil)))))
theorem vc10 : vcOfI ⟨c10, []⟩ iv10 (parLvs s10.params) 250 Try.f10 s10 = t10 := by kernel_rfl
set_option linter.unusedVariables false in
def p10 (T : Tab) (I : Nat → Env → Env → Prop) (M : Nat → Env → Env → Nat) (pre : Nat → List Int → List (List Int) → Prop) (post : List Int → List (List Int) → Prop) (v0 v1 : Int) : Prop :=
 ∀ v2 v3 : Int, [v2, v3] = T.out 33 2 [v0, v1] →
 ∀ v4 v5 : Int, [v4, v5] = T.out 34 2 [v0, v1] →
 ((decide ((v4 : Int) = v2) = true →
  (((!decide ((v5 : Int) = v3)) = true →
   post [0] []) ∧ ((!decide ((v5 : Int) = v3)) = false →
   post [1] []))) ∧ (decide ((v4 : Int) = v2) = false →
  post [0] []))
theorem q10 (T : Tab) (I : Nat → Env → Env → Prop) (M : Nat → Env → Env → Nat) (pre : Nat → List Int → List (List Int) → Prop) (post : List Int → List (List Int) → Prop) (v0 v1 : Int) : t10.plain T (presG pre I M) post ⟨[v0, v1], []⟩ = p10 T I M pre post v0 v1 := by kernel_rfl
theorem k10 (T : Tab) (I : Nat → Env → Env → Prop) (M : Nat → Env → Env → Nat) (pre : Nat → List Int → List (List Int) → Prop) (hs : SubSig T c10.sigs) (ht : TotG pre c10.sigs) (hg : T.sig 10 = some s10) (hC : CtAll Try.prog T.fns (presQ pre) c10.sigs) (hk : CpAll Try.prog c10.cps) (hi : ∀ xs ls, allHas (parIvs s10.params) xs → pre 10 xs ls → allHas iv10 xs)
    (h : ∀ (v0 v1 : Int), allHas iv10 [v0, v1] → allL (parLvs s10.params) [] → pre 10 [v0, v1] [] → p10 T I M pre (fun ys _ => ys = T.app 10 [v0, v1] []) v0 v1) : CT Try.prog T.fns (presQ pre) 10 s10 :=
  T.ctg (F := ⟨c10, []⟩) (fuel := 250) vc10 Try.checked.mixed hs ht hg hC hk Try.func10 I M (fun xs ls h1 h2 h3 => ⟨hi xs ls h1 h3, h2⟩) fun xs ls hx hl hp => by
    match xs, ls, hx, hl, hp with
    | [v0, v1], [], hx, hl, hp => rw [q10]; exact h v0 v1 hx hl hp
end Go.Proofs.Ytfpodondpanmaaa.Sx
