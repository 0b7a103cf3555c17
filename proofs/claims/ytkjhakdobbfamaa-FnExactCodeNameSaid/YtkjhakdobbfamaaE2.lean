import Derived.Test.YtkjhakdobbfamaaSxX
import Derived.Test.YtkjhakdobbfamaaE1
import Derived.Test.YtkjhakdobbfamaaChecked
import Derived.KernelRfl
namespace Go.Proofs.Ytkjhakdobbfamaa.Sx
open Go Go.RowKit
/-- loop.example/g01242/spec.CodeName -/
def s16 : SSig := ⟨[.val false [.i .i64]], [.s], true⟩
noncomputable def c16 : Cfg := ⟨Try.prog, [(62, s62)], [], [], [], []⟩
def iv16 : List Iv := [⟨(-9223372036854775808), 9223372036854775807⟩]
def t16 : VC :=
 (.call 62 (.e (.var 0) (.e (.lit 0) (.e (.lit 8) .nil))) 1
 (.ite (.not (.eq (.var 1) (.lit 1)))
  (.need []
  (.fin (.l (.lit []) .nil)))
  (.ite (.eq (.var 0) (.lit 0))
   (.need []
   (.fin (.l (.lit [111, 107]) .nil)))
   (.ite (.eq (.var 0) (.lit 1))
    (.need []
    (.fin (.l (.lit [105, 110, 118, 97, 108, 105, 100]) .nil)))
    (.ite (.eq (.var 0) (.lit 2))
     (.need []
     (.fin (.l (.lit [114, 97, 110, 103, 101]) .nil)))
     (.ite (.eq (.var 0) (.lit 3))
      (.need []
      (.fin (.l (.lit [108, 105, 109, 105, 116]) .nil)))
      (.ite (.eq (.var 0) (.lit 4))
       (.need []
       (.fin (.l (.lit [115, 116, 97, 116, 101]) .nil)))
       (.ite (.eq (.var 0) (.lit 5))
        (.need []
        (.fin (.l (.lit [115, 121, 110, 116, 97, 120]) .nil)))
        (.ite (.eq (.var 0) (.lit 6))
         (.need []
         (.fin (.l (.lit [110, 111, 116, 102, 111, 117, 110, 100]) .nil)))
         (.ite (.eq (.var 0) (.lit 7))
          (.need []
          (.fin (.l (.lit [98, 117, 100, 103, 101, 116]) .nil)))
          (.ite (.eq (.var 0) (.lit 8))
           (.need []
           (.fin (.l (.lit [112, 114, 111, 111, 102]) .nil)))
           (.fail 53))))))))))))
theorem vc16 : vcSf ⟨c16, []⟩ iv16 (parLvs s16.params) 250 Try.f16 s16 = t16 := by kernel_rfl
set_option linter.unusedVariables false in
def p16 (T : Tab) (I : Nat → Env → Env → Prop) (M : Nat → Env → Env → Nat) (pre : Nat → List Int → List (List Int) → Prop) (post : List Int → List (List Int) → Prop) (v0 : Int) : Prop :=
 ∀ v1 : Int, [v1] = T.out 62 1 [v0, 0, 8] →
 (((!decide ((v1 : Int) = 1)) = true →
  ((True) ∧ ((True) →
  post [] [([] : List Int)]))) ∧ ((!decide ((v1 : Int) = 1)) = false →
  ((decide ((v0 : Int) = 0) = true →
   ((True) ∧ ((True) →
   post [] [([111, 107] : List Int)]))) ∧ (decide ((v0 : Int) = 0) = false →
   ((decide ((v0 : Int) = 1) = true →
    ((True) ∧ ((True) →
    post [] [([105, 110, 118, 97, 108, 105, 100] : List Int)]))) ∧ (decide ((v0 : Int) = 1) = false →
    ((decide ((v0 : Int) = 2) = true →
     ((True) ∧ ((True) →
     post [] [([114, 97, 110, 103, 101] : List Int)]))) ∧ (decide ((v0 : Int) = 2) = false →
     ((decide ((v0 : Int) = 3) = true →
      ((True) ∧ ((True) →
      post [] [([108, 105, 109, 105, 116] : List Int)]))) ∧ (decide ((v0 : Int) = 3) = false →
      ((decide ((v0 : Int) = 4) = true →
       ((True) ∧ ((True) →
       post [] [([115, 116, 97, 116, 101] : List Int)]))) ∧ (decide ((v0 : Int) = 4) = false →
       ((decide ((v0 : Int) = 5) = true →
        ((True) ∧ ((True) →
        post [] [([115, 121, 110, 116, 97, 120] : List Int)]))) ∧ (decide ((v0 : Int) = 5) = false →
        ((decide ((v0 : Int) = 6) = true →
         ((True) ∧ ((True) →
         post [] [([110, 111, 116, 102, 111, 117, 110, 100] : List Int)]))) ∧ (decide ((v0 : Int) = 6) = false →
         ((decide ((v0 : Int) = 7) = true →
          ((True) ∧ ((True) →
          post [] [([98, 117, 100, 103, 101, 116] : List Int)]))) ∧ (decide ((v0 : Int) = 7) = false →
          ((decide ((v0 : Int) = 8) = true →
           ((True) ∧ ((True) →
           post [] [([112, 114, 111, 111, 102] : List Int)]))) ∧ (decide ((v0 : Int) = 8) = false →
           False))))))))))))))))))))
theorem q16 (T : Tab) (I : Nat → Env → Env → Prop) (M : Nat → Env → Env → Nat) (pre : Nat → List Int → List (List Int) → Prop) (post : List Int → List (List Int) → Prop) (v0 : Int) : t16.plain T (presG pre I M) post ⟨[v0], []⟩ = p16 T I M pre post v0 := by kernel_rfl
theorem k16 (T : Tab) (I : Nat → Env → Env → Prop) (M : Nat → Env → Env → Nat) (pre : Nat → List Int → List (List Int) → Prop) (hs : SubSig T c16.sigs) (ht : TotG pre c16.sigs) (hC : CtAll Try.prog T.fns (presQ pre) c16.sigs) (hk : CpAll Try.prog c16.cps) (hi : ∀ xs ls, allHas (parIvs s16.params) xs → pre 16 xs ls → allHas iv16 xs)
    (h : ∀ (v0 : Int), allHas iv16 [v0] → allL (parLvs s16.params) [] → pre 16 [v0] [] → p16 T I M pre (fun ys zs => T.fns 16 [v0] [] = (ys, zs)) v0) : CTS Try.prog T.fns (presQ pre) 16 s16 :=
  T.cts (F := ⟨c16, []⟩) (fuel := 250) vc16 Try.checked.mixed hs ht hC hk Try.func16 I M (fun xs ls h1 h2 h3 => ⟨hi xs ls h1 h3, h2⟩) fun xs ls hx hl hp => by
    match xs, ls, hx, hl, hp with
    | [v0], [], hx, hl, hp => rw [q16]; exact h v0 hx hl hp
/-- loop.example/g01242/impl.CodeName -/
def s17 : SSig := ⟨[.val false [.i .i64]], [.s], true⟩
noncomputable def c17 : Cfg := ⟨Try.prog, [], [], [], [], []⟩
def iv17 : List Iv := [⟨(-9223372036854775808), 9223372036854775807⟩]
def t17 : VC :=
 (.ite (.le (.lit 0) (.var 0))
  (.ite (.le (.lit 9) (.var 0))
   (.need []
   (.fin (.l (.lit []) .nil)))
   (.ite (.eq (.var 0) (.lit 0))
    (.need []
    (.fin (.l (.lit [111, 107]) .nil)))
    (.ite (.eq (.var 0) (.lit 1))
     (.need []
     (.fin (.l (.lit [105, 110, 118, 97, 108, 105, 100]) .nil)))
     (.ite (.eq (.var 0) (.lit 2))
      (.need []
      (.fin (.l (.lit [114, 97, 110, 103, 101]) .nil)))
      (.ite (.eq (.var 0) (.lit 3))
       (.need []
       (.fin (.l (.lit [108, 105, 109, 105, 116]) .nil)))
       (.ite (.eq (.var 0) (.lit 4))
        (.need []
        (.fin (.l (.lit [115, 116, 97, 116, 101]) .nil)))
        (.ite (.eq (.var 0) (.lit 5))
         (.need []
         (.fin (.l (.lit [115, 121, 110, 116, 97, 120]) .nil)))
         (.ite (.eq (.var 0) (.lit 6))
          (.need []
          (.fin (.l (.lit [110, 111, 116, 102, 111, 117, 110, 100]) .nil)))
          (.ite (.eq (.var 0) (.lit 7))
           (.need []
           (.fin (.l (.lit [98, 117, 100, 103, 101, 116]) .nil)))
           (.ite (.eq (.var 0) (.lit 8))
            (.need []
            (.fin (.l (.lit [112, 114, 111, 111, 102]) .nil)))
            (.fail 53)))))))))))
  (.need []
  (.fin (.l (.lit []) .nil))))
theorem vc17 : vcSf ⟨c17, []⟩ iv17 (parLvs s17.params) 250 Try.f17 s17 = t17 := by kernel_rfl
set_option linter.unusedVariables false in
def p17 (T : Tab) (I : Nat → Env → Env → Prop) (M : Nat → Env → Env → Nat) (pre : Nat → List Int → List (List Int) → Prop) (post : List Int → List (List Int) → Prop) (v0 : Int) : Prop :=
 ((decide ((0 : Int) ≤ v0) = true →
  ((decide ((9 : Int) ≤ v0) = true →
   ((True) ∧ ((True) →
   post [] [([] : List Int)]))) ∧ (decide ((9 : Int) ≤ v0) = false →
   ((decide ((v0 : Int) = 0) = true →
    ((True) ∧ ((True) →
    post [] [([111, 107] : List Int)]))) ∧ (decide ((v0 : Int) = 0) = false →
    ((decide ((v0 : Int) = 1) = true →
     ((True) ∧ ((True) →
     post [] [([105, 110, 118, 97, 108, 105, 100] : List Int)]))) ∧ (decide ((v0 : Int) = 1) = false →
     ((decide ((v0 : Int) = 2) = true →
      ((True) ∧ ((True) →
      post [] [([114, 97, 110, 103, 101] : List Int)]))) ∧ (decide ((v0 : Int) = 2) = false →
      ((decide ((v0 : Int) = 3) = true →
       ((True) ∧ ((True) →
       post [] [([108, 105, 109, 105, 116] : List Int)]))) ∧ (decide ((v0 : Int) = 3) = false →
       ((decide ((v0 : Int) = 4) = true →
        ((True) ∧ ((True) →
        post [] [([115, 116, 97, 116, 101] : List Int)]))) ∧ (decide ((v0 : Int) = 4) = false →
        ((decide ((v0 : Int) = 5) = true →
         ((True) ∧ ((True) →
         post [] [([115, 121, 110, 116, 97, 120] : List Int)]))) ∧ (decide ((v0 : Int) = 5) = false →
         ((decide ((v0 : Int) = 6) = true →
          ((True) ∧ ((True) →
          post [] [([110, 111, 116, 102, 111, 117, 110, 100] : List Int)]))) ∧ (decide ((v0 : Int) = 6) = false →
          ((decide ((v0 : Int) = 7) = true →
           ((True) ∧ ((True) →
           post [] [([98, 117, 100, 103, 101, 116] : List Int)]))) ∧ (decide ((v0 : Int) = 7) = false →
           ((decide ((v0 : Int) = 8) = true →
            ((True) ∧ ((True) →
            post [] [([112, 114, 111, 111, 102] : List Int)]))) ∧ (decide ((v0 : Int) = 8) = false →
            False))))))))))))))))))))) ∧ (decide ((0 : Int) ≤ v0) = false →
  ((True) ∧ ((True) →
  post [] [([] : List Int)]))))
theorem q17 (T : Tab) (I : Nat → Env → Env → Prop) (M : Nat → Env → Env → Nat) (pre : Nat → List Int → List (List Int) → Prop) (post : List Int → List (List Int) → Prop) (v0 : Int) : t17.plain T (presG pre I M) post ⟨[v0], []⟩ = p17 T I M pre post v0 := by kernel_rfl
theorem k17 (T : Tab) (I : Nat → Env → Env → Prop) (M : Nat → Env → Env → Nat) (pre : Nat → List Int → List (List Int) → Prop) (hs : SubSig T c17.sigs) (ht : TotG pre c17.sigs) (hC : CtAll Try.prog T.fns (presQ pre) c17.sigs) (hk : CpAll Try.prog c17.cps) (hi : ∀ xs ls, allHas (parIvs s17.params) xs → pre 17 xs ls → allHas iv17 xs)
    (h : ∀ (v0 : Int), allHas iv17 [v0] → allL (parLvs s17.params) [] → pre 17 [v0] [] → p17 T I M pre (fun ys zs => T.fns 17 [v0] [] = (ys, zs)) v0) : CTS Try.prog T.fns (presQ pre) 17 s17 :=
  T.cts (F := ⟨c17, []⟩) (fuel := 250) vc17 Try.checked.mixed hs ht hC hk Try.func17 I M (fun xs ls h1 h2 h3 => ⟨hi xs ls h1 h3, h2⟩) fun xs ls hx hl hp => by
    match xs, ls, hx, hl, hp with
    | [v0], [], hx, hl, hp => rw [q17]; exact h v0 hx hl hp
/-- loop.example/g01242/laws.FnExactCodeName -/
def s3 : Sig := ⟨[.val false [.i .i64]], [(false, [.b])], true⟩
noncomputable def c3 : Cfg := ⟨Try.prog, [], [], [], [], [(16, s16), (17, s17)]⟩
def iv3 : List Iv := [⟨(-9223372036854775808), 9223372036854775807⟩]
def t3 : VC :=
 (.calll 16 (.e (.var 0) .nil) [] [(⟨0, 255⟩, 9223372036854775807)]
 (.calll 17 (.e (.var 0) .nil) [] [(⟨0, 255⟩, 9223372036854775807)]
 (.ite (.not (.leq (.var 1) (.var 0)))
  (.fin (.e (.lit 0) .nil))
  (.fin (.e (.lit 1) .nil)))))
theorem vc3 : vcOfI ⟨c3, []⟩ iv3 (parLvs s3.params) 250 Try.f3 s3 = t3 := by kernel_rfl
set_option linter.unusedVariables false in
def p3 (T : Tab) (I : Nat → Env → Env → Prop) (M : Nat → Env → Env → Nat) (pre : Nat → List Int → List (List Int) → Prop) (post : List Int → List (List Int) → Prop) (v0 : Int) : Prop :=
 ∀ l0 : List Int, allHas [] [] → allL [(⟨0, 255⟩, 9223372036854775807)] [l0] → ([], [l0]) = T.fns 16 [v0] [] →
 ∀ l1 : List Int, allHas [] [] → allL [(⟨0, 255⟩, 9223372036854775807)] [l1] → ([], [l1]) = T.fns 17 [v0] [] →
 (((!decide ((l1 : List Int) = l0)) = true →
  post [0] []) ∧ ((!decide ((l1 : List Int) = l0)) = false →
  post [1] []))
theorem q3 (T : Tab) (I : Nat → Env → Env → Prop) (M : Nat → Env → Env → Nat) (pre : Nat → List Int → List (List Int) → Prop) (post : List Int → List (List Int) → Prop) (v0 : Int) : t3.plain T (presG pre I M) post ⟨[v0], []⟩ = p3 T I M pre post v0 := by kernel_rfl
theorem k3 (T : Tab) (I : Nat → Env → Env → Prop) (M : Nat → Env → Env → Nat) (pre : Nat → List Int → List (List Int) → Prop) (hs : SubSig T c3.sigs) (ht : TotG pre c3.sigs) (hg : T.sig 3 = some s3) (hC : CtAll Try.prog T.fns (presQ pre) c3.sigs) (hk : CpAll Try.prog c3.cps) (hsf : SfAll Try.prog T.fns (presQ pre) c3.sfs) (hi : ∀ xs ls, allHas (parIvs s3.params) xs → pre 3 xs ls → allHas iv3 xs)
    (h : ∀ (v0 : Int), allHas iv3 [v0] → allL (parLvs s3.params) [] → pre 3 [v0] [] → p3 T I M pre (fun ys _ => ys = T.app 3 [v0] []) v0) : CT Try.prog T.fns (presQ pre) 3 s3 :=
  T.ctg (hsf := hsf) (F := ⟨c3, []⟩) (fuel := 250) vc3 Try.checked.mixed hs ht hg hC hk Try.func3 I M (fun xs ls h1 h2 h3 => ⟨hi xs ls h1 h3, h2⟩) fun xs ls hx hl hp => by
    match xs, ls, hx, hl, hp with
    | [v0], [], hx, hl, hp => rw [q3]; exact h v0 hx hl hp
end Go.Proofs.Ytkjhakdobbfamaa.Sx
