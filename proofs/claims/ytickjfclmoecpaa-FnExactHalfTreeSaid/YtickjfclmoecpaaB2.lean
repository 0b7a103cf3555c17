import Derived.Test.YtickjfclmoecpaaSxX
import Derived.Test.YtickjfclmoecpaaA1
import Derived.Test.YtickjfclmoecpaaB1
import Derived.Test.YtickjfclmoecpaaChecked
import Derived.KernelRfl
namespace Go.Proofs.Ytickjfclmoecpaa.Sx
open Go Go.RowKit
/-- loop.example/g01242/impl.askTo -/
def s52 : Sig := ⟨[.val false [.i .i16], .val false [.i .i16], .val false [.i .i16]], [(true, [.i .i8, .i .i8, .i .i16, .i .i16, .i .i16])], true⟩
noncomputable def c52 : Cfg := ⟨Try.prog, [], [], [], [], [], []⟩
def iv52 : List Iv := [⟨(-32768), 32767⟩, ⟨(-32768), 32767⟩, ⟨(-32768), 32767⟩]
def t52 : VC :=
 (.fin (.e (.lit 1) (.e (.lit 0) (.e (.var 0) (.e (.var 1) (.e (.var 2) .nil))))))
theorem vc52 : vcOfI ⟨c52, []⟩ iv52 (parLvs s52.params) 250 Try.f52 s52 = t52 := by kernel_rfl
set_option linter.unusedVariables false in
def p52 (T : Tab) (I : Nat → Env → Env → Prop) (M : Nat → Env → Env → Nat) (pre : Nat → List Int → List (List Int) → Prop) (post : List Int → List (List Int) → Prop) (v0 v1 v2 : Int) : Prop :=
 post [1, 0, v0, v1, v2] []
theorem q52 (T : Tab) (I : Nat → Env → Env → Prop) (M : Nat → Env → Env → Nat) (pre : Nat → List Int → List (List Int) → Prop) (post : List Int → List (List Int) → Prop) (v0 v1 v2 : Int) : t52.plain T (presG pre I M) post ⟨[v0, v1, v2], []⟩ = p52 T I M pre post v0 v1 v2 := by kernel_rfl
theorem k52 (T : Tab) (I : Nat → Env → Env → Prop) (M : Nat → Env → Env → Nat) (pre : Nat → List Int → List (List Int) → Prop) (hs : SubSig T c52.sigs) (ht : TotG pre c52.sigs) (hg : T.sig 52 = some s52) (hC : CtAll Try.prog T.fns (presQ pre) c52.sigs) (hk : CpAll Try.prog c52.cps) (hi : ∀ xs ls, allHas (parIvs s52.params) xs → pre 52 xs ls → allHas iv52 xs)
    (h : ∀ (v0 v1 v2 : Int), allHas iv52 [v0, v1, v2] → allL (parLvs s52.params) [] → pre 52 [v0, v1, v2] [] → p52 T I M pre (fun ys _ => ys = T.app 52 [v0, v1, v2] []) v0 v1 v2) : CT Try.prog T.fns (presQ pre) 52 s52 :=
  T.ctg (F := ⟨c52, []⟩) (fuel := 250) vc52 Try.checked.mixed hs ht hg hC hk Try.func52 I M (fun xs ls h1 h2 h3 => ⟨hi xs ls h1 h3, h2⟩) fun xs ls hx hl hp => by
    match xs, ls, hx, hl, hp with
    | [v0, v1, v2], [], hx, hl, hp => rw [q52]; exact h v0 v1 v2 hx hl hp
/-- loop.example/g01242/impl.tellTo -/
def s53 : Sig := ⟨[.val false [.i .i8], .val false [.i .i16]], [(true, [.i .i8, .i .i8, .i .i16, .i .i16, .i .i16])], true⟩
noncomputable def c53 : Cfg := ⟨Try.prog, [], [], [], [], [], []⟩
def iv53 : List Iv := [⟨(-128), 127⟩, ⟨(-32768), 32767⟩]
def t53 : VC :=
 (.fin (.e (.lit 2) (.e (.var 0) (.e (.var 1) (.e (.lit 0) (.e (.lit 0) .nil))))))
theorem vc53 : vcOfI ⟨c53, []⟩ iv53 (parLvs s53.params) 250 Try.f53 s53 = t53 := by kernel_rfl
set_option linter.unusedVariables false in
def p53 (T : Tab) (I : Nat → Env → Env → Prop) (M : Nat → Env → Env → Nat) (pre : Nat → List Int → List (List Int) → Prop) (post : List Int → List (List Int) → Prop) (v0 v1 : Int) : Prop :=
 post [2, v0, v1, 0, 0] []
theorem q53 (T : Tab) (I : Nat → Env → Env → Prop) (M : Nat → Env → Env → Nat) (pre : Nat → List Int → List (List Int) → Prop) (post : List Int → List (List Int) → Prop) (v0 v1 : Int) : t53.plain T (presG pre I M) post ⟨[v0, v1], []⟩ = p53 T I M pre post v0 v1 := by kernel_rfl
theorem k53 (T : Tab) (I : Nat → Env → Env → Prop) (M : Nat → Env → Env → Nat) (pre : Nat → List Int → List (List Int) → Prop) (hs : SubSig T c53.sigs) (ht : TotG pre c53.sigs) (hg : T.sig 53 = some s53) (hC : CtAll Try.prog T.fns (presQ pre) c53.sigs) (hk : CpAll Try.prog c53.cps) (hi : ∀ xs ls, allHas (parIvs s53.params) xs → pre 53 xs ls → allHas iv53 xs)
    (h : ∀ (v0 v1 : Int), allHas iv53 [v0, v1] → allL (parLvs s53.params) [] → pre 53 [v0, v1] [] → p53 T I M pre (fun ys _ => ys = T.app 53 [v0, v1] []) v0 v1) : CT Try.prog T.fns (presQ pre) 53 s53 :=
  T.ctg (F := ⟨c53, []⟩) (fuel := 250) vc53 Try.checked.mixed hs ht hg hC hk Try.func53 I M (fun xs ls h1 h2 h3 => ⟨hi xs ls h1 h3, h2⟩) fun xs ls hx hl hp => by
    match xs, ls, hx, hl, hp with
    | [v0, v1], [], hx, hl, hp => rw [q53]; exact h v0 v1 hx hl hp
/-- loop.example/g01242/spec.l06Copies -/
def s51 : LSig := ⟨[.val true [.i .i8, .i .i8, .i .i8], .val false [.i .i16]], [.l false [[.i8, .i8, .i16, .i16, .i16]] [60]], true⟩
noncomputable def c51 : Cfg := ⟨Try.prog, [], [], [], [], [], [27]⟩
def iv51 : List Iv := [⟨(-128), 127⟩, ⟨(-128), 127⟩, ⟨(-128), 127⟩, ⟨(-32768), 32767⟩]
def t51 : VC :=
 (.need [(.b (.lt (.lit 0) (.len (.cat (.one (.lit 2)) (.cat (.one (.var 0)) (.cat (.one (.var 3)) (.cat (.one (.lit 0)) (.one (.lit 0)))))))))]
 (.need [(.b (.lt (.lit 0) (.len (.cat (.one (.lit 2)) (.cat (.one (.var 1)) (.cat (.one (.var 3)) (.cat (.one (.lit 0)) (.one (.lit 0)))))))))]
 (.need [(.b (.lt (.lit 0) (.len (.cat (.one (.lit 2)) (.cat (.one (.var 2)) (.cat (.one (.var 3)) (.cat (.one (.lit 0)) (.one (.lit 0)))))))))]
 (.need [(.b (.eq (.div (.len (.cat (.cat (.cat (.one (.lit 2)) (.cat (.one (.var 0)) (.cat (.one (.var 3)) (.cat (.one (.lit 0)) (.one (.lit 0)))))) (.cat (.one (.lit 2)) (.cat (.one (.var 1)) (.cat (.one (.var 3)) (.cat (.one (.lit 0)) (.one (.lit 0))))))) (.cat (.one (.lit 2)) (.cat (.one (.var 2)) (.cat (.one (.var 3)) (.cat (.one (.lit 0)) (.one (.lit 0)))))))) (.lit 5)) (.div (.len (.cat (.cat (.cat (.one (.lit 2)) (.cat (.one (.var 0)) (.cat (.one (.var 3)) (.cat (.one (.lit 0)) (.one (.lit 0)))))) (.cat (.one (.lit 2)) (.cat (.one (.var 1)) (.cat (.one (.var 3)) (.cat (.one (.lit 0)) (.one (.lit 0))))))) (.cat (.one (.lit 2)) (.cat (.one (.var 2)) (.cat (.one (.var 3)) (.cat (.one (.lit 0)) (.one (.lit 0)))))))) (.lit 5))))]
 (.fin (.e (.lit 0) (.l (.cat (.cat (.cat (.one (.lit 2)) (.cat (.one (.var 0)) (.cat (.one (.var 3)) (.cat (.one (.lit 0)) (.one (.lit 0)))))) (.cat (.one (.lit 2)) (.cat (.one (.var 1)) (.cat (.one (.var 3)) (.cat (.one (.lit 0)) (.one (.lit 0))))))) (.cat (.one (.lit 2)) (.cat (.one (.var 2)) (.cat (.one (.var 3)) (.cat (.one (.lit 0)) (.one (.lit 0))))))) .nil)))))))
theorem vc51 : vcLf ⟨c51, []⟩ iv51 (parLvs s51.params) 250 Try.f51 s51 = t51 := by kernel_rfl
set_option linter.unusedVariables false in
def p51 (T : Tab) (I : Nat → Env → Env → Prop) (M : Nat → Env → Env → Nat) (pre : Nat → List Int → List (List Int) → Prop) (post : List Int → List (List Int) → Prop) (v0 v1 v2 v3 : Int) : Prop :=
 ((decide ((0 : Int) < (List.length ([2] ++ ([v0] ++ ([v3] ++ ([0] ++ [0])))) : Int)) = true) ∧ ((decide ((0 : Int) < (List.length ([2] ++ ([v0] ++ ([v3] ++ ([0] ++ [0])))) : Int)) = true) →
 ((decide ((0 : Int) < (List.length ([2] ++ ([v1] ++ ([v3] ++ ([0] ++ [0])))) : Int)) = true) ∧ ((decide ((0 : Int) < (List.length ([2] ++ ([v1] ++ ([v3] ++ ([0] ++ [0])))) : Int)) = true) →
 ((decide ((0 : Int) < (List.length ([2] ++ ([v2] ++ ([v3] ++ ([0] ++ [0])))) : Int)) = true) ∧ ((decide ((0 : Int) < (List.length ([2] ++ ([v2] ++ ([v3] ++ ([0] ++ [0])))) : Int)) = true) →
 ((decide ((((List.length ((([2] ++ ([v0] ++ ([v3] ++ ([0] ++ [0])))) ++ ([2] ++ ([v1] ++ ([v3] ++ ([0] ++ [0]))))) ++ ([2] ++ ([v2] ++ ([v3] ++ ([0] ++ [0]))))) : Int) / 5) : Int) = ((List.length ((([2] ++ ([v0] ++ ([v3] ++ ([0] ++ [0])))) ++ ([2] ++ ([v1] ++ ([v3] ++ ([0] ++ [0]))))) ++ ([2] ++ ([v2] ++ ([v3] ++ ([0] ++ [0]))))) : Int) / 5)) = true) ∧ ((decide ((((List.length ((([2] ++ ([v0] ++ ([v3] ++ ([0] ++ [0])))) ++ ([2] ++ ([v1] ++ ([v3] ++ ([0] ++ [0]))))) ++ ([2] ++ ([v2] ++ ([v3] ++ ([0] ++ [0]))))) : Int) / 5) : Int) = ((List.length ((([2] ++ ([v0] ++ ([v3] ++ ([0] ++ [0])))) ++ ([2] ++ ([v1] ++ ([v3] ++ ([0] ++ [0]))))) ++ ([2] ++ ([v2] ++ ([v3] ++ ([0] ++ [0]))))) : Int) / 5)) = true) →
 post [0] [((([2] ++ ([v0] ++ ([v3] ++ ([0] ++ [0])))) ++ ([2] ++ ([v1] ++ ([v3] ++ ([0] ++ [0]))))) ++ ([2] ++ ([v2] ++ ([v3] ++ ([0] ++ [0])))))]))))))))
theorem q51 (T : Tab) (I : Nat → Env → Env → Prop) (M : Nat → Env → Env → Nat) (pre : Nat → List Int → List (List Int) → Prop) (post : List Int → List (List Int) → Prop) (v0 v1 v2 v3 : Int) : t51.plain T (presG pre I M) post ⟨[v0, v1, v2, v3], []⟩ = p51 T I M pre post v0 v1 v2 v3 := by kernel_rfl
theorem k51 (T : Tab) (I : Nat → Env → Env → Prop) (M : Nat → Env → Env → Nat) (pre : Nat → List Int → List (List Int) → Prop) (hs : SubSig T c51.sigs) (ht : TotG pre c51.sigs) (hC : CtAll Try.prog T.fns (presQ pre) c51.sigs) (hk : CpAll Try.prog c51.cps) (hi : ∀ xs ls, allHas (parIvs s51.params) xs → pre 51 xs ls → allHas iv51 xs)
    (h : ∀ (v0 v1 v2 v3 : Int), allHas iv51 [v0, v1, v2, v3] → allL (parLvs s51.params) [] → pre 51 [v0, v1, v2, v3] [] → p51 T I M pre (fun ys zs => T.fns 51 [v0, v1, v2, v3] [] = (ys, zs)) v0 v1 v2 v3) : CTL Try.prog T.fns (presQ pre) 51 s51 :=
  T.ctl (F := ⟨c51, []⟩) (fuel := 250) vc51 Try.checked.mixed hs ht hC hk Try.func51 I M (fun xs ls h1 h2 h3 => ⟨hi xs ls h1 h3, h2⟩) fun xs ls hx hl hp => by
    match xs, ls, hx, hl, hp with
    | [v0, v1, v2, v3], [], hx, hl, hp => rw [q51]; exact h v0 v1 v2 v3 hx hl hp
/-- loop.example/g01242/spec.EchoTree -/
def s22 : LSig := ⟨[], [.l true [[.i8, .i8, .i16, .i16, .i16]] [60]], true⟩
noncomputable def c22 : Cfg := ⟨Try.prog, [], [], [(51, s51)], [], [], [27]⟩
def iv22 : List Iv := []
def t22 : VC :=
 (.calll 51 (.e (.lit (-1)) (.e (.lit 0) (.e (.lit 1) (.e (.lit 0) .nil)))) [⟨0, 1⟩] [(⟨(-32768), 32767⟩, 1099511627776)]
 (.ite (.eq (.var 0) (.lit 1))
  (.fail 1)
  (.need [(.b (.lt (.lit 0) (.len (.var 0)))), (.b (.le (.len (.cat (.cat (.one (.lit 1)) (.cat (.one (.lit 0)) (.cat (.one (.lit 1)) (.cat (.one (.lit 2)) (.one (.lit 3)))))) (.var 0))) (.lit 1099511627776)))]
  (.need [(.b (.eq (.div (.len (.cat (.cat (.one (.lit 1)) (.cat (.one (.lit 0)) (.cat (.one (.lit 1)) (.cat (.one (.lit 2)) (.one (.lit 3)))))) (.var 0))) (.lit 5)) (.div (.len (.cat (.cat (.one (.lit 1)) (.cat (.one (.lit 0)) (.cat (.one (.lit 1)) (.cat (.one (.lit 2)) (.one (.lit 3)))))) (.var 0))) (.lit 5)))), (.b (.le (.len (.cat (.cat (.one (.lit 1)) (.cat (.one (.lit 0)) (.cat (.one (.lit 1)) (.cat (.one (.lit 2)) (.one (.lit 3)))))) (.var 0))) (.lit 1099511627776)))]
  (.fin (.e (.lit 0) (.l (.cat (.cat (.one (.lit 1)) (.cat (.one (.lit 0)) (.cat (.one (.lit 1)) (.cat (.one (.lit 2)) (.one (.lit 3)))))) (.var 0)) .nil)))))))
theorem vc22 : vcLf ⟨c22, []⟩ iv22 (parLvs s22.params) 250 Try.f22 s22 = t22 := by kernel_rfl
set_option linter.unusedVariables false in
def p22 (T : Tab) (I : Nat → Env → Env → Prop) (M : Nat → Env → Env → Nat) (pre : Nat → List Int → List (List Int) → Prop) (post : List Int → List (List Int) → Prop) : Prop :=
 ∀ v0 : Int, ∀ l0 : List Int, allHas [⟨0, 1⟩] [v0] → allL [(⟨(-32768), 32767⟩, 1099511627776)] [l0] → ([v0], [l0]) = T.fns 51 [(-1), 0, 1, 0] [] →
 ((decide ((v0 : Int) = 1) = true →
  False) ∧ (decide ((v0 : Int) = 1) = false →
  ((decide ((0 : Int) < (List.length l0 : Int)) = true ∧ decide (((List.length (([1] ++ ([0] ++ ([1] ++ ([2] ++ [3])))) ++ l0) : Int) : Int) ≤ 1099511627776) = true) ∧ ((decide ((0 : Int) < (List.length l0 : Int)) = true ∧ decide (((List.length (([1] ++ ([0] ++ ([1] ++ ([2] ++ [3])))) ++ l0) : Int) : Int) ≤ 1099511627776) = true) →
  ((decide ((((List.length (([1] ++ ([0] ++ ([1] ++ ([2] ++ [3])))) ++ l0) : Int) / 5) : Int) = ((List.length (([1] ++ ([0] ++ ([1] ++ ([2] ++ [3])))) ++ l0) : Int) / 5)) = true ∧ decide (((List.length (([1] ++ ([0] ++ ([1] ++ ([2] ++ [3])))) ++ l0) : Int) : Int) ≤ 1099511627776) = true) ∧ ((decide ((((List.length (([1] ++ ([0] ++ ([1] ++ ([2] ++ [3])))) ++ l0) : Int) / 5) : Int) = ((List.length (([1] ++ ([0] ++ ([1] ++ ([2] ++ [3])))) ++ l0) : Int) / 5)) = true ∧ decide (((List.length (([1] ++ ([0] ++ ([1] ++ ([2] ++ [3])))) ++ l0) : Int) : Int) ≤ 1099511627776) = true) →
  post [0] [(([1] ++ ([0] ++ ([1] ++ ([2] ++ [3])))) ++ l0)]))))))
theorem q22 (T : Tab) (I : Nat → Env → Env → Prop) (M : Nat → Env → Env → Nat) (pre : Nat → List Int → List (List Int) → Prop) (post : List Int → List (List Int) → Prop) : t22.plain T (presG pre I M) post ⟨[], []⟩ = p22 T I M pre post  := by kernel_rfl
theorem k22 (T : Tab) (I : Nat → Env → Env → Prop) (M : Nat → Env → Env → Nat) (pre : Nat → List Int → List (List Int) → Prop) (hs : SubSig T c22.sigs) (ht : TotG pre c22.sigs) (hC : CtAll Try.prog T.fns (presQ pre) c22.sigs) (hk : CpAll Try.prog c22.cps) (hlf : LfAll Try.prog T.fns (presQ pre) c22.lfs) (hi : ∀ xs ls, allHas (parIvs s22.params) xs → pre 22 xs ls → allHas iv22 xs)
    (h : ∀ (_ : Unit), allHas iv22 [] → allL (parLvs s22.params) [] → pre 22 [] [] → p22 T I M pre (fun ys zs => T.fns 22 [] [] = (ys, zs)) ) : CTL Try.prog T.fns (presQ pre) 22 s22 :=
  T.ctl (hlf := hlf) (F := ⟨c22, []⟩) (fuel := 250) vc22 Try.checked.mixed hs ht hC hk Try.func22 I M (fun xs ls h1 h2 h3 => ⟨hi xs ls h1 h3, h2⟩) fun xs ls hx hl hp => by
    match xs, ls, hx, hl, hp with
    | [], [], hx, hl, hp => rw [q22]; exact h () hx hl hp
/-- loop.example/g01242/spec.NegTree -/
def s26 : LSig := ⟨[], [.l true [[.i8, .i8, .i16, .i16, .i16]] [60]], true⟩
noncomputable def c26 : Cfg := ⟨Try.prog, [], [], [(51, s51)], [], [], [27]⟩
def iv26 : List Iv := []
def t26 : VC :=
 (.calll 51 (.e (.lit 1) (.e (.lit 0) (.e (.lit (-1)) (.e (.lit 0) .nil)))) [⟨0, 1⟩] [(⟨(-32768), 32767⟩, 1099511627776)]
 (.ite (.eq (.var 0) (.lit 1))
  (.fail 1)
  (.need [(.b (.lt (.lit 0) (.len (.var 0)))), (.b (.le (.len (.cat (.cat (.one (.lit 1)) (.cat (.one (.lit 0)) (.cat (.one (.lit 1)) (.cat (.one (.lit 2)) (.one (.lit 3)))))) (.var 0))) (.lit 1099511627776)))]
  (.need [(.b (.eq (.div (.len (.cat (.cat (.one (.lit 1)) (.cat (.one (.lit 0)) (.cat (.one (.lit 1)) (.cat (.one (.lit 2)) (.one (.lit 3)))))) (.var 0))) (.lit 5)) (.div (.len (.cat (.cat (.one (.lit 1)) (.cat (.one (.lit 0)) (.cat (.one (.lit 1)) (.cat (.one (.lit 2)) (.one (.lit 3)))))) (.var 0))) (.lit 5)))), (.b (.le (.len (.cat (.cat (.one (.lit 1)) (.cat (.one (.lit 0)) (.cat (.one (.lit 1)) (.cat (.one (.lit 2)) (.one (.lit 3)))))) (.var 0))) (.lit 1099511627776)))]
  (.fin (.e (.lit 0) (.l (.cat (.cat (.one (.lit 1)) (.cat (.one (.lit 0)) (.cat (.one (.lit 1)) (.cat (.one (.lit 2)) (.one (.lit 3)))))) (.var 0)) .nil)))))))
theorem vc26 : vcLf ⟨c26, []⟩ iv26 (parLvs s26.params) 250 Try.f26 s26 = t26 := by kernel_rfl
set_option linter.unusedVariables false in
def p26 (T : Tab) (I : Nat → Env → Env → Prop) (M : Nat → Env → Env → Nat) (pre : Nat → List Int → List (List Int) → Prop) (post : List Int → List (List Int) → Prop) : Prop :=
 ∀ v0 : Int, ∀ l0 : List Int, allHas [⟨0, 1⟩] [v0] → allL [(⟨(-32768), 32767⟩, 1099511627776)] [l0] → ([v0], [l0]) = T.fns 51 [1, 0, (-1), 0] [] →
 ((decide ((v0 : Int) = 1) = true →
  False) ∧ (decide ((v0 : Int) = 1) = false →
  ((decide ((0 : Int) < (List.length l0 : Int)) = true ∧ decide (((List.length (([1] ++ ([0] ++ ([1] ++ ([2] ++ [3])))) ++ l0) : Int) : Int) ≤ 1099511627776) = true) ∧ ((decide ((0 : Int) < (List.length l0 : Int)) = true ∧ decide (((List.length (([1] ++ ([0] ++ ([1] ++ ([2] ++ [3])))) ++ l0) : Int) : Int) ≤ 1099511627776) = true) →
  ((decide ((((List.length (([1] ++ ([0] ++ ([1] ++ ([2] ++ [3])))) ++ l0) : Int) / 5) : Int) = ((List.length (([1] ++ ([0] ++ ([1] ++ ([2] ++ [3])))) ++ l0) : Int) / 5)) = true ∧ decide (((List.length (([1] ++ ([0] ++ ([1] ++ ([2] ++ [3])))) ++ l0) : Int) : Int) ≤ 1099511627776) = true) ∧ ((decide ((((List.length (([1] ++ ([0] ++ ([1] ++ ([2] ++ [3])))) ++ l0) : Int) / 5) : Int) = ((List.length (([1] ++ ([0] ++ ([1] ++ ([2] ++ [3])))) ++ l0) : Int) / 5)) = true ∧ decide (((List.length (([1] ++ ([0] ++ ([1] ++ ([2] ++ [3])))) ++ l0) : Int) : Int) ≤ 1099511627776) = true) →
  post [0] [(([1] ++ ([0] ++ ([1] ++ ([2] ++ [3])))) ++ l0)]))))))
theorem q26 (T : Tab) (I : Nat → Env → Env → Prop) (M : Nat → Env → Env → Nat) (pre : Nat → List Int → List (List Int) → Prop) (post : List Int → List (List Int) → Prop) : t26.plain T (presG pre I M) post ⟨[], []⟩ = p26 T I M pre post  := by kernel_rfl
theorem k26 (T : Tab) (I : Nat → Env → Env → Prop) (M : Nat → Env → Env → Nat) (pre : Nat → List Int → List (List Int) → Prop) (hs : SubSig T c26.sigs) (ht : TotG pre c26.sigs) (hC : CtAll Try.prog T.fns (presQ pre) c26.sigs) (hk : CpAll Try.prog c26.cps) (hlf : LfAll Try.prog T.fns (presQ pre) c26.lfs) (hi : ∀ xs ls, allHas (parIvs s26.params) xs → pre 26 xs ls → allHas iv26 xs)
    (h : ∀ (_ : Unit), allHas iv26 [] → allL (parLvs s26.params) [] → pre 26 [] [] → p26 T I M pre (fun ys zs => T.fns 26 [] [] = (ys, zs)) ) : CTL Try.prog T.fns (presQ pre) 26 s26 :=
  T.ctl (hlf := hlf) (F := ⟨c26, []⟩) (fuel := 250) vc26 Try.checked.mixed hs ht hC hk Try.func26 I M (fun xs ls h1 h2 h3 => ⟨hi xs ls h1 h3, h2⟩) fun xs ls hx hl hp => by
    match xs, ls, hx, hl, hp with
    | [], [], hx, hl, hp => rw [q26]; exact h () hx hl hp
/-- loop.example/g01242/spec.HalfTree -/
def s28 : LSig := ⟨[], [.l true [[.i8, .i8, .i16, .i16, .i16]] [60]], true⟩
noncomputable def c28 : Cfg := ⟨Try.prog, [], [], [(51, s51)], [], [], [27]⟩
def iv28 : List Iv := []
def t28 : VC :=
 (.calll 51 (.e (.lit (-1)) (.e (.lit 0) (.e (.lit 1) (.e (.lit 1) .nil)))) [⟨0, 1⟩] [(⟨(-32768), 32767⟩, 1099511627776)]
 (.ite (.eq (.var 0) (.lit 1))
  (.fail 1)
  (.need [(.b (.lt (.lit 0) (.len (.var 0)))), (.b (.le (.len (.cat (.cat (.one (.lit 2)) (.cat (.one (.lit 0)) (.cat (.one (.lit 1)) (.cat (.one (.lit 0)) (.cat (.one (.lit 0)) (.cat (.one (.lit 1)) (.cat (.one (.lit 0)) (.cat (.one (.lit 2)) (.cat (.one (.lit 3)) (.one (.lit 4))))))))))) (.var 0))) (.lit 1099511627776)))]
  (.need [(.b (.eq (.div (.len (.cat (.cat (.one (.lit 2)) (.cat (.one (.lit 0)) (.cat (.one (.lit 1)) (.cat (.one (.lit 0)) (.cat (.one (.lit 0)) (.cat (.one (.lit 1)) (.cat (.one (.lit 0)) (.cat (.one (.lit 2)) (.cat (.one (.lit 3)) (.one (.lit 4))))))))))) (.var 0))) (.lit 5)) (.div (.len (.cat (.cat (.one (.lit 2)) (.cat (.one (.lit 0)) (.cat (.one (.lit 1)) (.cat (.one (.lit 0)) (.cat (.one (.lit 0)) (.cat (.one (.lit 1)) (.cat (.one (.lit 0)) (.cat (.one (.lit 2)) (.cat (.one (.lit 3)) (.one (.lit 4))))))))))) (.var 0))) (.lit 5)))), (.b (.le (.len (.cat (.cat (.one (.lit 2)) (.cat (.one (.lit 0)) (.cat (.one (.lit 1)) (.cat (.one (.lit 0)) (.cat (.one (.lit 0)) (.cat (.one (.lit 1)) (.cat (.one (.lit 0)) (.cat (.one (.lit 2)) (.cat (.one (.lit 3)) (.one (.lit 4))))))))))) (.var 0))) (.lit 1099511627776)))]
  (.fin (.e (.lit 0) (.l (.cat (.cat (.one (.lit 2)) (.cat (.one (.lit 0)) (.cat (.one (.lit 1)) (.cat (.one (.lit 0)) (.cat (.one (.lit 0)) (.cat (.one (.lit 1)) (.cat (.one (.lit 0)) (.cat (.one (.lit 2)) (.cat (.one (.lit 3)) (.one (.lit 4))))))))))) (.var 0)) .nil)))))))
theorem vc28 : vcLf ⟨c28, []⟩ iv28 (parLvs s28.params) 250 Try.f28 s28 = t28 := by kernel_rfl
set_option linter.unusedVariables false in
def p28 (T : Tab) (I : Nat → Env → Env → Prop) (M : Nat → Env → Env → Nat) (pre : Nat → List Int → List (List Int) → Prop) (post : List Int → List (List Int) → Prop) : Prop :=
 ∀ v0 : Int, ∀ l0 : List Int, allHas [⟨0, 1⟩] [v0] → allL [(⟨(-32768), 32767⟩, 1099511627776)] [l0] → ([v0], [l0]) = T.fns 51 [(-1), 0, 1, 1] [] →
 ((decide ((v0 : Int) = 1) = true →
  False) ∧ (decide ((v0 : Int) = 1) = false →
  ((decide ((0 : Int) < (List.length l0 : Int)) = true ∧ decide (((List.length (([2] ++ ([0] ++ ([1] ++ ([0] ++ ([0] ++ ([1] ++ ([0] ++ ([2] ++ ([3] ++ [4]))))))))) ++ l0) : Int) : Int) ≤ 1099511627776) = true) ∧ ((decide ((0 : Int) < (List.length l0 : Int)) = true ∧ decide (((List.length (([2] ++ ([0] ++ ([1] ++ ([0] ++ ([0] ++ ([1] ++ ([0] ++ ([2] ++ ([3] ++ [4]))))))))) ++ l0) : Int) : Int) ≤ 1099511627776) = true) →
  ((decide ((((List.length (([2] ++ ([0] ++ ([1] ++ ([0] ++ ([0] ++ ([1] ++ ([0] ++ ([2] ++ ([3] ++ [4]))))))))) ++ l0) : Int) / 5) : Int) = ((List.length (([2] ++ ([0] ++ ([1] ++ ([0] ++ ([0] ++ ([1] ++ ([0] ++ ([2] ++ ([3] ++ [4]))))))))) ++ l0) : Int) / 5)) = true ∧ decide (((List.length (([2] ++ ([0] ++ ([1] ++ ([0] ++ ([0] ++ ([1] ++ ([0] ++ ([2] ++ ([3] ++ [4]))))))))) ++ l0) : Int) : Int) ≤ 1099511627776) = true) ∧ ((decide ((((List.length (([2] ++ ([0] ++ ([1] ++ ([0] ++ ([0] ++ ([1] ++ ([0] ++ ([2] ++ ([3] ++ [4]))))))))) ++ l0) : Int) / 5) : Int) = ((List.length (([2] ++ ([0] ++ ([1] ++ ([0] ++ ([0] ++ ([1] ++ ([0] ++ ([2] ++ ([3] ++ [4]))))))))) ++ l0) : Int) / 5)) = true ∧ decide (((List.length (([2] ++ ([0] ++ ([1] ++ ([0] ++ ([0] ++ ([1] ++ ([0] ++ ([2] ++ ([3] ++ [4]))))))))) ++ l0) : Int) : Int) ≤ 1099511627776) = true) →
  post [0] [(([2] ++ ([0] ++ ([1] ++ ([0] ++ ([0] ++ ([1] ++ ([0] ++ ([2] ++ ([3] ++ [4]))))))))) ++ l0)]))))))
theorem q28 (T : Tab) (I : Nat → Env → Env → Prop) (M : Nat → Env → Env → Nat) (pre : Nat → List Int → List (List Int) → Prop) (post : List Int → List (List Int) → Prop) : t28.plain T (presG pre I M) post ⟨[], []⟩ = p28 T I M pre post  := by kernel_rfl
theorem k28 (T : Tab) (I : Nat → Env → Env → Prop) (M : Nat → Env → Env → Nat) (pre : Nat → List Int → List (List Int) → Prop) (hs : SubSig T c28.sigs) (ht : TotG pre c28.sigs) (hC : CtAll Try.prog T.fns (presQ pre) c28.sigs) (hk : CpAll Try.prog c28.cps) (hlf : LfAll Try.prog T.fns (presQ pre) c28.lfs) (hi : ∀ xs ls, allHas (parIvs s28.params) xs → pre 28 xs ls → allHas iv28 xs)
    (h : ∀ (_ : Unit), allHas iv28 [] → allL (parLvs s28.params) [] → pre 28 [] [] → p28 T I M pre (fun ys zs => T.fns 28 [] [] = (ys, zs)) ) : CTL Try.prog T.fns (presQ pre) 28 s28 :=
  T.ctl (hlf := hlf) (F := ⟨c28, []⟩) (fuel := 250) vc28 Try.checked.mixed hs ht hC hk Try.func28 I M (fun xs ls h1 h2 h3 => ⟨hi xs ls h1 h3, h2⟩) fun xs ls hx hl hp => by
    match xs, ls, hx, hl, hp with
    | [], [], hx, hl, hp => rw [q28]; exact h () hx hl hp
/-- loop.example/g01242/impl.EchoTree -/
def s23 : LSig := ⟨[], [.l true [[.i8, .i8, .i16, .i16, .i16]] [60]], true⟩
noncomputable def c23 : Cfg := ⟨Try.prog, [(52, s52), (53, s53)], [], [], [], [], [27]⟩
def iv23 : List Iv := []
def t23 : VC :=
 (.call 52 (.e (.lit 1) (.e (.lit 2) (.e (.lit 3) .nil))) 5
 (.call 53 (.e (.lit (-1)) (.e (.lit 0) .nil)) 5
 (.call 53 (.e (.lit 0) (.e (.lit 0) .nil)) 5
 (.call 53 (.e (.lit 1) (.e (.lit 0) .nil)) 5
 (.need [(.b (.eq (.div (.len (.cat (.one (.var 0)) (.cat (.one (.var 1)) (.cat (.one (.var 2)) (.cat (.one (.var 3)) (.cat (.one (.var 4)) (.cat (.one (.var 5)) (.cat (.one (.var 6)) (.cat (.one (.var 7)) (.cat (.one (.var 8)) (.cat (.one (.var 9)) (.cat (.one (.var 10)) (.cat (.one (.var 11)) (.cat (.one (.var 12)) (.cat (.one (.var 13)) (.cat (.one (.var 14)) (.cat (.one (.var 15)) (.cat (.one (.var 16)) (.cat (.one (.var 17)) (.cat (.one (.var 18)) (.one (.var 19)))))))))))))))))))))) (.lit 5)) (.div (.len (.cat (.one (.var 0)) (.cat (.one (.var 1)) (.cat (.one (.var 2)) (.cat (.one (.var 3)) (.cat (.one (.var 4)) (.cat (.one (.var 5)) (.cat (.one (.var 6)) (.cat (.one (.var 7)) (.cat (.one (.var 8)) (.cat (.one (.var 9)) (.cat (.one (.var 10)) (.cat (.one (.var 11)) (.cat (.one (.var 12)) (.cat (.one (.var 13)) (.cat (.one (.var 14)) (.cat (.one (.var 15)) (.cat (.one (.var 16)) (.cat (.one (.var 17)) (.cat (.one (.var 18)) (.one (.var 19)))))))))))))))))))))) (.lit 5))))]
 (.fin (.e (.lit 0) (.l (.cat (.one (.var 0)) (.cat (.one (.var 1)) (.cat (.one (.var 2)) (.cat (.one (.var 3)) (.cat (.one (.var 4)) (.cat (.one (.var 5)) (.cat (.one (.var 6)) (.cat (.one (.var 7)) (.cat (.one (.var 8)) (.cat (.one (.var 9)) (.cat (.one (.var 10)) (.cat (.one (.var 11)) (.cat (.one (.var 12)) (.cat (.one (.var 13)) (.cat (.one (.var 14)) (.cat (.one (.var 15)) (.cat (.one (.var 16)) (.cat (.one (.var 17)) (.cat (.one (.var 18)) (.one (.var 19))))))))))))))))))))) .nil))))))))
theorem vc23 : vcLf ⟨c23, []⟩ iv23 (parLvs s23.params) 250 Try.f23 s23 = t23 := by kernel_rfl
set_option linter.unusedVariables false in
def p23 (T : Tab) (I : Nat → Env → Env → Prop) (M : Nat → Env → Env → Nat) (pre : Nat → List Int → List (List Int) → Prop) (post : List Int → List (List Int) → Prop) : Prop :=
 ∀ v0 v1 v2 v3 v4 : Int, [v0, v1, v2, v3, v4] = T.out 52 5 [1, 2, 3] →
 ∀ v5 v6 v7 v8 v9 : Int, [v5, v6, v7, v8, v9] = T.out 53 5 [(-1), 0] →
 ∀ v10 v11 v12 v13 v14 : Int, [v10, v11, v12, v13, v14] = T.out 53 5 [0, 0] →
 ∀ v15 v16 v17 v18 v19 : Int, [v15, v16, v17, v18, v19] = T.out 53 5 [1, 0] →
 ((decide ((((List.length ([v0] ++ ([v1] ++ ([v2] ++ ([v3] ++ ([v4] ++ ([v5] ++ ([v6] ++ ([v7] ++ ([v8] ++ ([v9] ++ ([v10] ++ ([v11] ++ ([v12] ++ ([v13] ++ ([v14] ++ ([v15] ++ ([v16] ++ ([v17] ++ ([v18] ++ [v19]))))))))))))))))))) : Int) / 5) : Int) = ((List.length ([v0] ++ ([v1] ++ ([v2] ++ ([v3] ++ ([v4] ++ ([v5] ++ ([v6] ++ ([v7] ++ ([v8] ++ ([v9] ++ ([v10] ++ ([v11] ++ ([v12] ++ ([v13] ++ ([v14] ++ ([v15] ++ ([v16] ++ ([v17] ++ ([v18] ++ [v19]))))))))))))))))))) : Int) / 5)) = true) ∧ ((decide ((((List.length ([v0] ++ ([v1] ++ ([v2] ++ ([v3] ++ ([v4] ++ ([v5] ++ ([v6] ++ ([v7] ++ ([v8] ++ ([v9] ++ ([v10] ++ ([v11] ++ ([v12] ++ ([v13] ++ ([v14] ++ ([v15] ++ ([v16] ++ ([v17] ++ ([v18] ++ [v19]))))))))))))))))))) : Int) / 5) : Int) = ((List.length ([v0] ++ ([v1] ++ ([v2] ++ ([v3] ++ ([v4] ++ ([v5] ++ ([v6] ++ ([v7] ++ ([v8] ++ ([v9] ++ ([v10] ++ ([v11] ++ ([v12] ++ ([v13] ++ ([v14] ++ ([v15] ++ ([v16] ++ ([v17] ++ ([v18] ++ [v19]))))))))))))))))))) : Int) / 5)) = true) →
 post [0] [([v0] ++ ([v1] ++ ([v2] ++ ([v3] ++ ([v4] ++ ([v5] ++ ([v6] ++ ([v7] ++ ([v8] ++ ([v9] ++ ([v10] ++ ([v11] ++ ([v12] ++ ([v13] ++ ([v14] ++ ([v15] ++ ([v16] ++ ([v17] ++ ([v18] ++ [v19])))))))))))))))))))]))
theorem q23 (T : Tab) (I : Nat → Env → Env → Prop) (M : Nat → Env → Env → Nat) (pre : Nat → List Int → List (List Int) → Prop) (post : List Int → List (List Int) → Prop) : t23.plain T (presG pre I M) post ⟨[], []⟩ = p23 T I M pre post  := by kernel_rfl
theorem k23 (T : Tab) (I : Nat → Env → Env → Prop) (M : Nat → Env → Env → Nat) (pre : Nat → List Int → List (List Int) → Prop) (hs : SubSig T c23.sigs) (ht : TotG pre c23.sigs) (hC : CtAll Try.prog T.fns (presQ pre) c23.sigs) (hk : CpAll Try.prog c23.cps) (hi : ∀ xs ls, allHas (parIvs s23.params) xs → pre 23 xs ls → allHas iv23 xs)
    (h : ∀ (_ : Unit), allHas iv23 [] → allL (parLvs s23.params) [] → pre 23 [] [] → p23 T I M pre (fun ys zs => T.fns 23 [] [] = (ys, zs)) ) : CTL Try.prog T.fns (presQ pre) 23 s23 :=
  T.ctl (F := ⟨c23, []⟩) (fuel := 250) vc23 Try.checked.mixed hs ht hC hk Try.func23 I M (fun xs ls h1 h2 h3 => ⟨hi xs ls h1 h3, h2⟩) fun xs ls hx hl hp => by
    match xs, ls, hx, hl, hp with
    | [], [], hx, hl, hp => rw [q23]; exact h () hx hl hp
/-- loop.example/g01242/impl.NegTree -/
def s27 : LSig := ⟨[], [.l true [[.i8, .i8, .i16, .i16, .i16]] [60]], true⟩
noncomputable def c27 : Cfg := ⟨Try.prog, [(52, s52), (53, s53)], [], [], [], [], [27]⟩
def iv27 : List Iv := []
def t27 : VC :=
 (.call 52 (.e (.lit 1) (.e (.lit 2) (.e (.lit 3) .nil))) 5
 (.call 53 (.e (.lit 1) (.e (.lit 0) .nil)) 5
 (.call 53 (.e (.lit 0) (.e (.lit 0) .nil)) 5
 (.call 53 (.e (.lit (-1)) (.e (.lit 0) .nil)) 5
 (.need [(.b (.eq (.div (.len (.cat (.one (.var 0)) (.cat (.one (.var 1)) (.cat (.one (.var 2)) (.cat (.one (.var 3)) (.cat (.one (.var 4)) (.cat (.one (.var 5)) (.cat (.one (.var 6)) (.cat (.one (.var 7)) (.cat (.one (.var 8)) (.cat (.one (.var 9)) (.cat (.one (.var 10)) (.cat (.one (.var 11)) (.cat (.one (.var 12)) (.cat (.one (.var 13)) (.cat (.one (.var 14)) (.cat (.one (.var 15)) (.cat (.one (.var 16)) (.cat (.one (.var 17)) (.cat (.one (.var 18)) (.one (.var 19)))))))))))))))))))))) (.lit 5)) (.div (.len (.cat (.one (.var 0)) (.cat (.one (.var 1)) (.cat (.one (.var 2)) (.cat (.one (.var 3)) (.cat (.one (.var 4)) (.cat (.one (.var 5)) (.cat (.one (.var 6)) (.cat (.one (.var 7)) (.cat (.one (.var 8)) (.cat (.one (.var 9)) (.cat (.one (.var 10)) (.cat (.one (.var 11)) (.cat (.one (.var 12)) (.cat (.one (.var 13)) (.cat (.one (.var 14)) (.cat (.one (.var 15)) (.cat (.one (.var 16)) (.cat (.one (.var 17)) (.cat (.one (.var 18)) (.one (.var 19)))))))))))))))))))))) (.lit 5))))]
 (.fin (.e (.lit 0) (.l (.cat (.one (.var 0)) (.cat (.one (.var 1)) (.cat (.one (.var 2)) (.cat (.one (.var 3)) (.cat (.one (.var 4)) (.cat (.one (.var 5)) (.cat (.one (.var 6)) (.cat (.one (.var 7)) (.cat (.one (.var 8)) (.cat (.one (.var 9)) (.cat (.one (.var 10)) (.cat (.one (.var 11)) (.cat (.one (.var 12)) (.cat (.one (.var 13)) (.cat (.one (.var 14)) (.cat (.one (.var 15)) (.cat (.one (.var 16)) (.cat (.one (.var 17)) (.cat (.one (.var 18)) (.one (.var 19))))))))))))))))))))) .nil))))))))
theorem vc27 : vcLf ⟨c27, []⟩ iv27 (parLvs s27.params) 250 Try.f27 s27 = t27 := by kernel_rfl
set_option linter.unusedVariables false in
def p27 (T : Tab) (I : Nat → Env → Env → Prop) (M : Nat → Env → Env → Nat) (pre : Nat → List Int → List (List Int) → Prop) (post : List Int → List (List Int) → Prop) : Prop :=
 ∀ v0 v1 v2 v3 v4 : Int, [v0, v1, v2, v3, v4] = T.out 52 5 [1, 2, 3] →
 ∀ v5 v6 v7 v8 v9 : Int, [v5, v6, v7, v8, v9] = T.out 53 5 [1, 0] →
 ∀ v10 v11 v12 v13 v14 : Int, [v10, v11, v12, v13, v14] = T.out 53 5 [0, 0] →
 ∀ v15 v16 v17 v18 v19 : Int, [v15, v16, v17, v18, v19] = T.out 53 5 [(-1), 0] →
 ((decide ((((List.length ([v0] ++ ([v1] ++ ([v2] ++ ([v3] ++ ([v4] ++ ([v5] ++ ([v6] ++ ([v7] ++ ([v8] ++ ([v9] ++ ([v10] ++ ([v11] ++ ([v12] ++ ([v13] ++ ([v14] ++ ([v15] ++ ([v16] ++ ([v17] ++ ([v18] ++ [v19]))))))))))))))))))) : Int) / 5) : Int) = ((List.length ([v0] ++ ([v1] ++ ([v2] ++ ([v3] ++ ([v4] ++ ([v5] ++ ([v6] ++ ([v7] ++ ([v8] ++ ([v9] ++ ([v10] ++ ([v11] ++ ([v12] ++ ([v13] ++ ([v14] ++ ([v15] ++ ([v16] ++ ([v17] ++ ([v18] ++ [v19]))))))))))))))))))) : Int) / 5)) = true) ∧ ((decide ((((List.length ([v0] ++ ([v1] ++ ([v2] ++ ([v3] ++ ([v4] ++ ([v5] ++ ([v6] ++ ([v7] ++ ([v8] ++ ([v9] ++ ([v10] ++ ([v11] ++ ([v12] ++ ([v13] ++ ([v14] ++ ([v15] ++ ([v16] ++ ([v17] ++ ([v18] ++ [v19]))))))))))))))))))) : Int) / 5) : Int) = ((List.length ([v0] ++ ([v1] ++ ([v2] ++ ([v3] ++ ([v4] ++ ([v5] ++ ([v6] ++ ([v7] ++ ([v8] ++ ([v9] ++ ([v10] ++ ([v11] ++ ([v12] ++ ([v13] ++ ([v14] ++ ([v15] ++ ([v16] ++ ([v17] ++ ([v18] ++ [v19]))))))))))))))))))) : Int) / 5)) = true) →
 post [0] [([v0] ++ ([v1] ++ ([v2] ++ ([v3] ++ ([v4] ++ ([v5] ++ ([v6] ++ ([v7] ++ ([v8] ++ ([v9] ++ ([v10] ++ ([v11] ++ ([v12] ++ ([v13] ++ ([v14] ++ ([v15] ++ ([v16] ++ ([v17] ++ ([v18] ++ [v19])))))))))))))))))))]))
theorem q27 (T : Tab) (I : Nat → Env → Env → Prop) (M : Nat → Env → Env → Nat) (pre : Nat → List Int → List (List Int) → Prop) (post : List Int → List (List Int) → Prop) : t27.plain T (presG pre I M) post ⟨[], []⟩ = p27 T I M pre post  := by kernel_rfl
theorem k27 (T : Tab) (I : Nat → Env → Env → Prop) (M : Nat → Env → Env → Nat) (pre : Nat → List Int → List (List Int) → Prop) (hs : SubSig T c27.sigs) (ht : TotG pre c27.sigs) (hC : CtAll Try.prog T.fns (presQ pre) c27.sigs) (hk : CpAll Try.prog c27.cps) (hi : ∀ xs ls, allHas (parIvs s27.params) xs → pre 27 xs ls → allHas iv27 xs)
    (h : ∀ (_ : Unit), allHas iv27 [] → allL (parLvs s27.params) [] → pre 27 [] [] → p27 T I M pre (fun ys zs => T.fns 27 [] [] = (ys, zs)) ) : CTL Try.prog T.fns (presQ pre) 27 s27 :=
  T.ctl (F := ⟨c27, []⟩) (fuel := 250) vc27 Try.checked.mixed hs ht hC hk Try.func27 I M (fun xs ls h1 h2 h3 => ⟨hi xs ls h1 h3, h2⟩) fun xs ls hx hl hp => by
    match xs, ls, hx, hl, hp with
    | [], [], hx, hl, hp => rw [q27]; exact h () hx hl hp
/-- loop.example/g01242/impl.HalfTree -/
def s29 : LSig := ⟨[], [.l true [[.i8, .i8, .i16, .i16, .i16]] [60]], true⟩
noncomputable def c29 : Cfg := ⟨Try.prog, [(53, s53), (52, s52)], [], [], [], [], [27]⟩
def iv29 : List Iv := []
def t29 : VC :=
 (.call 53 (.e (.lit 0) (.e (.lit 1) .nil)) 5
 (.call 52 (.e (.lit 2) (.e (.lit 3) (.e (.lit 4) .nil))) 5
 (.call 53 (.e (.lit (-1)) (.e (.lit 1) .nil)) 5
 (.call 53 (.e (.lit 0) (.e (.lit 1) .nil)) 5
 (.call 53 (.e (.lit 1) (.e (.lit 1) .nil)) 5
 (.need [(.b (.eq (.div (.len (.cat (.one (.var 0)) (.cat (.one (.var 1)) (.cat (.one (.var 2)) (.cat (.one (.var 3)) (.cat (.one (.var 4)) (.cat (.one (.var 5)) (.cat (.one (.var 6)) (.cat (.one (.var 7)) (.cat (.one (.var 8)) (.cat (.one (.var 9)) (.cat (.one (.var 10)) (.cat (.one (.var 11)) (.cat (.one (.var 12)) (.cat (.one (.var 13)) (.cat (.one (.var 14)) (.cat (.one (.var 15)) (.cat (.one (.var 16)) (.cat (.one (.var 17)) (.cat (.one (.var 18)) (.cat (.one (.var 19)) (.cat (.one (.var 20)) (.cat (.one (.var 21)) (.cat (.one (.var 22)) (.cat (.one (.var 23)) (.one (.var 24))))))))))))))))))))))))))) (.lit 5)) (.div (.len (.cat (.one (.var 0)) (.cat (.one (.var 1)) (.cat (.one (.var 2)) (.cat (.one (.var 3)) (.cat (.one (.var 4)) (.cat (.one (.var 5)) (.cat (.one (.var 6)) (.cat (.one (.var 7)) (.cat (.one (.var 8)) (.cat (.one (.var 9)) (.cat (.one (.var 10)) (.cat (.one (.var 11)) (.cat (.one (.var 12)) (.cat (.one (.var 13)) (.cat (.one (.var 14)) (.cat (.one (.var 15)) (.cat (.one (.var 16)) (.cat (.one (.var 17)) (.cat (.one (.var 18)) (.cat (.one (.var 19)) (.cat (.one (.var 20)) (.cat (.one (.var 21)) (.cat (.one (.var 22)) (.cat (.one (.var 23)) (.one (.var 24))))))))))))))))))))))))))) (.lit 5))))]
 (.fin (.e (.lit 0) (.l (.cat (.one (.var 0)) (.cat (.one (.var 1)) (.cat (.one (.var 2)) (.cat (.one (.var 3)) (.cat (.one (.var 4)) (.cat (.one (.var 5)) (.cat (.one (.var 6)) (.cat (.one (.var 7)) (.cat (.one (.var 8)) (.cat (.one (.var 9)) (.cat (.one (.var 10)) (.cat (.one (.var 11)) (.cat (.one (.var 12)) (.cat (.one (.var 13)) (.cat (.one (.var 14)) (.cat (.one (.var 15)) (.cat (.one (.var 16)) (.cat (.one (.var 17)) (.cat (.one (.var 18)) (.cat (.one (.var 19)) (.cat (.one (.var 20)) (.cat (.one (.var 21)) (.cat (.one (.var 22)) (.cat (.one (.var 23)) (.one (.var 24)))))))))))))))))))))))))) .nil)))))))))
theorem vc29 : vcLf ⟨c29, []⟩ iv29 (parLvs s29.params) 250 Try.f29 s29 = t29 := by kernel_rfl
set_option linter.unusedVariables false in
def p29 (T : Tab) (I : Nat → Env → Env → Prop) (M : Nat → Env → Env → Nat) (pre : Nat → List Int → List (List Int) → Prop) (post : List Int → List (List Int) → Prop) : Prop :=
 ∀ v0 v1 v2 v3 v4 : Int, [v0, v1, v2, v3, v4] = T.out 53 5 [0, 1] →
 ∀ v5 v6 v7 v8 v9 : Int, [v5, v6, v7, v8, v9] = T.out 52 5 [2, 3, 4] →
 ∀ v10 v11 v12 v13 v14 : Int, [v10, v11, v12, v13, v14] = T.out 53 5 [(-1), 1] →
 ∀ v15 v16 v17 v18 v19 : Int, [v15, v16, v17, v18, v19] = T.out 53 5 [0, 1] →
 ∀ v20 v21 v22 v23 v24 : Int, [v20, v21, v22, v23, v24] = T.out 53 5 [1, 1] →
 ((decide ((((List.length ([v0] ++ ([v1] ++ ([v2] ++ ([v3] ++ ([v4] ++ ([v5] ++ ([v6] ++ ([v7] ++ ([v8] ++ ([v9] ++ ([v10] ++ ([v11] ++ ([v12] ++ ([v13] ++ ([v14] ++ ([v15] ++ ([v16] ++ ([v17] ++ ([v18] ++ ([v19] ++ ([v20] ++ ([v21] ++ ([v22] ++ ([v23] ++ [v24])))))))))))))))))))))))) : Int) / 5) : Int) = ((List.length ([v0] ++ ([v1] ++ ([v2] ++ ([v3] ++ ([v4] ++ ([v5] ++ ([v6] ++ ([v7] ++ ([v8] ++ ([v9] ++ ([v10] ++ ([v11] ++ ([v12] ++ ([v13] ++ ([v14] ++ ([v15] ++ ([v16] ++ ([v17] ++ ([v18] ++ ([v19] ++ ([v20] ++ ([v21] ++ ([v22] ++ ([v23] ++ [v24])))))))))))))))))))))))) : Int) / 5)) = true) ∧ ((decide ((((List.length ([v0] ++ ([v1] ++ ([v2] ++ ([v3] ++ ([v4] ++ ([v5] ++ ([v6] ++ ([v7] ++ ([v8] ++ ([v9] ++ ([v10] ++ ([v11] ++ ([v12] ++ ([v13] ++ ([v14] ++ ([v15] ++ ([v16] ++ ([v17] ++ ([v18] ++ ([v19] ++ ([v20] ++ ([v21] ++ ([v22] ++ ([v23] ++ [v24])))))))))))))))))))))))) : Int) / 5) : Int) = ((List.length ([v0] ++ ([v1] ++ ([v2] ++ ([v3] ++ ([v4] ++ ([v5] ++ ([v6] ++ ([v7] ++ ([v8] ++ ([v9] ++ ([v10] ++ ([v11] ++ ([v12] ++ ([v13] ++ ([v14] ++ ([v15] ++ ([v16] ++ ([v17] ++ ([v18] ++ ([v19] ++ ([v20] ++ ([v21] ++ ([v22] ++ ([v23] ++ [v24])))))))))))))))))))))))) : Int) / 5)) = true) →
 post [0] [([v0] ++ ([v1] ++ ([v2] ++ ([v3] ++ ([v4] ++ ([v5] ++ ([v6] ++ ([v7] ++ ([v8] ++ ([v9] ++ ([v10] ++ ([v11] ++ ([v12] ++ ([v13] ++ ([v14] ++ ([v15] ++ ([v16] ++ ([v17] ++ ([v18] ++ ([v19] ++ ([v20] ++ ([v21] ++ ([v22] ++ ([v23] ++ [v24]))))))))))))))))))))))))]))
theorem q29 (T : Tab) (I : Nat → Env → Env → Prop) (M : Nat → Env → Env → Nat) (pre : Nat → List Int → List (List Int) → Prop) (post : List Int → List (List Int) → Prop) : t29.plain T (presG pre I M) post ⟨[], []⟩ = p29 T I M pre post  := by kernel_rfl
theorem k29 (T : Tab) (I : Nat → Env → Env → Prop) (M : Nat → Env → Env → Nat) (pre : Nat → List Int → List (List Int) → Prop) (hs : SubSig T c29.sigs) (ht : TotG pre c29.sigs) (hC : CtAll Try.prog T.fns (presQ pre) c29.sigs) (hk : CpAll Try.prog c29.cps) (hi : ∀ xs ls, allHas (parIvs s29.params) xs → pre 29 xs ls → allHas iv29 xs)
    (h : ∀ (_ : Unit), allHas iv29 [] → allL (parLvs s29.params) [] → pre 29 [] [] → p29 T I M pre (fun ys zs => T.fns 29 [] [] = (ys, zs)) ) : CTL Try.prog T.fns (presQ pre) 29 s29 :=
  T.ctl (F := ⟨c29, []⟩) (fuel := 250) vc29 Try.checked.mixed hs ht hC hk Try.func29 I M (fun xs ls h1 h2 h3 => ⟨hi xs ls h1 h3, h2⟩) fun xs ls hx hl hp => by
    match xs, ls, hx, hl, hp with
    | [], [], hx, hl, hp => rw [q29]; exact h () hx hl hp
/-- loop.example/g01242/laws.markForkS -/
def s54 : WSig := ⟨[.i8, .i8, .i16, .i16, .i16], 60, [.i .i64], [(false, [.i .i64])], false, false⟩
noncomputable def c54 : Cfg := ⟨Try.prog, [], [], [], [], [], []⟩
def iv54 : List Iv := [⟨(-9223372036854775808), 9223372036854775807⟩]
def t54 : VC :=
 (.need [(.b (.le (.len (.var 0)) (.lit 9223372036854775807)))]
 (.loop 1 [(.var 0), (.lit 0)] [(.var 0)] [⟨(-9223372036854775808), 9223372036854775807⟩, ⟨(-9223372036854775808), 9223372036854775807⟩] [(⟨(-32768), 32767⟩, 9223372036854775807)]
  (.need [(.b (.eq (.div (.len (.var 0)) (.lit 5)) (.div (.len (.var 1)) (.lit 5))))]
  (.ite (.lt (.var 2) (.div (.len (.var 1)) (.lit 5)))
   (.need [(.b (.eq (.div (.len (.var 0)) (.lit 5)) (.div (.len (.var 1)) (.lit 5))))]
   (.need [(.b (.le (.lit 0) (.var 2))), (.b (.lt (.var 2) (.div (.len (.var 1)) (.lit 5))))]
   (.need [(.b (.lt (.mul (.add (.lit 0) (.var 2)) (.lit 5)) (.len (.var 1))))]
   (.bind (.wrap .i64 (.add (.var 1) (.lit 1)))
   (.need [(.b (.eq (.div (.len (.var 0)) (.lit 5)) (.div (.len (.var 1)) (.lit 5))))]
   (.need [(.b (.le (.lit 0) (.var 2))), (.b (.lt (.var 2) (.div (.len (.var 1)) (.lit 5)))), (.b (.lt (.add (.lit 0) (.var 2)) (.div (.len (.set (.var 1) (.mul (.add (.lit 0) (.var 2)) (.lit 5)) (.wrap .i8 (.var 1)))) (.lit 5))))]
   (.need [(.b (.lt (.add (.mul (.add (.lit 0) (.var 2)) (.lit 5)) (.lit 1)) (.len (.set (.var 1) (.mul (.add (.lit 0) (.var 2)) (.lit 5)) (.wrap .i8 (.var 1))))))]
   (.bind (.wrap .i64 (.add (.var 3) (.lit 1)))
   (.need [(.b (.eq (.div (.len (.var 0)) (.lit 5)) (.div (.len (.var 1)) (.lit 5))))]
   (.need [(.b (.le (.lit 0) (.var 2))), (.b (.lt (.var 2) (.div (.len (.var 1)) (.lit 5)))), (.b (.lt (.add (.lit 0) (.var 2)) (.div (.len (.set (.set (.var 1) (.mul (.add (.lit 0) (.var 2)) (.lit 5)) (.wrap .i8 (.var 1))) (.add (.mul (.add (.lit 0) (.var 2)) (.lit 5)) (.lit 1)) (.wrap .i8 (.var 3)))) (.lit 5))))]
   (.need [(.b (.lt (.add (.mul (.add (.lit 0) (.var 2)) (.lit 5)) (.lit 2)) (.len (.set (.set (.var 1) (.mul (.add (.lit 0) (.var 2)) (.lit 5)) (.wrap .i8 (.var 1))) (.add (.mul (.add (.lit 0) (.var 2)) (.lit 5)) (.lit 1)) (.wrap .i8 (.var 3))))))]
   (.bind (.wrap .i64 (.add (.var 4) (.lit 1)))
   (.need [(.b (.eq (.div (.len (.var 0)) (.lit 5)) (.div (.len (.var 1)) (.lit 5))))]
   (.need [(.b (.le (.lit 0) (.var 2))), (.b (.lt (.var 2) (.div (.len (.var 1)) (.lit 5)))), (.b (.lt (.add (.lit 0) (.var 2)) (.div (.len (.set (.set (.set (.var 1) (.mul (.add (.lit 0) (.var 2)) (.lit 5)) (.wrap .i8 (.var 1))) (.add (.mul (.add (.lit 0) (.var 2)) (.lit 5)) (.lit 1)) (.wrap .i8 (.var 3))) (.add (.mul (.add (.lit 0) (.var 2)) (.lit 5)) (.lit 2)) (.wrap .i16 (.var 4)))) (.lit 5))))]
   (.need [(.b (.lt (.add (.mul (.add (.lit 0) (.var 2)) (.lit 5)) (.lit 3)) (.len (.set (.set (.set (.var 1) (.mul (.add (.lit 0) (.var 2)) (.lit 5)) (.wrap .i8 (.var 1))) (.add (.mul (.add (.lit 0) (.var 2)) (.lit 5)) (.lit 1)) (.wrap .i8 (.var 3))) (.add (.mul (.add (.lit 0) (.var 2)) (.lit 5)) (.lit 2)) (.wrap .i16 (.var 4))))))]
   (.bind (.wrap .i64 (.add (.var 5) (.lit 1)))
   (.need [(.b (.eq (.div (.len (.var 0)) (.lit 5)) (.div (.len (.var 1)) (.lit 5))))]
   (.need [(.b (.le (.lit 0) (.var 2))), (.b (.lt (.var 2) (.div (.len (.var 1)) (.lit 5)))), (.b (.lt (.add (.lit 0) (.var 2)) (.div (.len (.set (.set (.set (.set (.var 1) (.mul (.add (.lit 0) (.var 2)) (.lit 5)) (.wrap .i8 (.var 1))) (.add (.mul (.add (.lit 0) (.var 2)) (.lit 5)) (.lit 1)) (.wrap .i8 (.var 3))) (.add (.mul (.add (.lit 0) (.var 2)) (.lit 5)) (.lit 2)) (.wrap .i16 (.var 4))) (.add (.mul (.add (.lit 0) (.var 2)) (.lit 5)) (.lit 3)) (.wrap .i16 (.var 5)))) (.lit 5))))]
   (.need [(.b (.lt (.add (.mul (.add (.lit 0) (.var 2)) (.lit 5)) (.lit 4)) (.len (.set (.set (.set (.set (.var 1) (.mul (.add (.lit 0) (.var 2)) (.lit 5)) (.wrap .i8 (.var 1))) (.add (.mul (.add (.lit 0) (.var 2)) (.lit 5)) (.lit 1)) (.wrap .i8 (.var 3))) (.add (.mul (.add (.lit 0) (.var 2)) (.lit 5)) (.lit 2)) (.wrap .i16 (.var 4))) (.add (.mul (.add (.lit 0) (.var 2)) (.lit 5)) (.lit 3)) (.wrap .i16 (.var 5))))))]
   (.bind (.wrap .i64 (.add (.var 6) (.lit 1)))
   (.bind (.wrap .i64 (.add (.var 2) (.lit 1)))
   (.again 1 1 1 [⟨(-9223372036854775808), 9223372036854775807⟩, ⟨(-9223372036854775808), 9223372036854775807⟩] [(.var 7), (.var 8)] [(.set (.set (.set (.set (.set (.var 1) (.mul (.add (.lit 0) (.var 2)) (.lit 5)) (.wrap .i8 (.var 1))) (.add (.mul (.add (.lit 0) (.var 2)) (.lit 5)) (.lit 1)) (.wrap .i8 (.var 3))) (.add (.mul (.add (.lit 0) (.var 2)) (.lit 5)) (.lit 2)) (.wrap .i16 (.var 4))) (.add (.mul (.add (.lit 0) (.var 2)) (.lit 5)) (.lit 3)) (.wrap .i16 (.var 5))) (.add (.mul (.add (.lit 0) (.var 2)) (.lit 5)) (.lit 4)) (.wrap .i16 (.var 6)))]))))))))))))))))))))))
   (.need [(.b (.eq (.len (.var 1)) (.len (.var 0))))]
   (.fin (.e (.var 1) (.l (.var 1) .nil))))))))
def u54 : VC :=
 (.fin (.e (.var 0) (.l (.lit []) .nil)))
theorem vc54 : vcWf ⟨c54, [(2, ⟨1, [1, 5], [], [7, 8, 9, 10, 13, 14, 15, 16, 17, 18, 19, 20, 21, 22, 23, 24, 25, 26, 27, 28, 6, 29, 30, 33, 34, 35, 36, 37, 38, 39, 40, 41, 42, 31, 32, 11, 12], [⟨(-9223372036854775808), 9223372036854775807⟩, ⟨(-9223372036854775808), 9223372036854775807⟩], [0], []⟩)]⟩ iv54 250 Try.f54 s54 true = t54 := by kernel_rfl
theorem vd54 : vcWf ⟨c54, [(2, ⟨1, [1, 5], [], [7, 8, 9, 10, 13, 14, 15, 16, 17, 18, 19, 20, 21, 22, 23, 24, 25, 26, 27, 28, 6, 29, 30, 33, 34, 35, 36, 37, 38, 39, 40, 41, 42, 31, 32, 11, 12], [⟨(-9223372036854775808), 9223372036854775807⟩, ⟨(-9223372036854775808), 9223372036854775807⟩], [0], []⟩)]⟩ iv54 250 Try.f54 s54 false = u54 := by kernel_rfl
set_option linter.unusedVariables false in
def p54 (T : Tab) (I : Nat → Env → Env → Prop) (M : Nat → Env → Env → Nat) (pre : Nat → List Int → List (List Int) → Prop) (post : List Int → List (List Int) → Prop) (v0 : Int) (l0 : List Int) : Prop :=
 ((decide (((List.length l0 : Int) : Int) ≤ 9223372036854775807) = true) ∧ ((decide (((List.length l0 : Int) : Int) ≤ 9223372036854775807) = true) →
 ((allHas [⟨(-9223372036854775808), 9223372036854775807⟩, ⟨(-9223372036854775808), 9223372036854775807⟩] [v0, 0] ∧ I 1 ⟨[v0], [l0]⟩ ⟨[v0, 0], [l0]⟩) ∧ ∀ v1 v2 : Int, ∀ l1 : List Int, allHas [⟨(-9223372036854775808), 9223372036854775807⟩, ⟨(-9223372036854775808), 9223372036854775807⟩] [v1, v2] → allL [(⟨(-32768), 32767⟩, 9223372036854775807)] [l1] → I 1 ⟨[v0], [l0]⟩ ⟨[v1, v2], [l1]⟩ →
  ((decide ((((List.length l0 : Int) / 5) : Int) = ((List.length l1 : Int) / 5)) = true) ∧ ((decide ((((List.length l0 : Int) / 5) : Int) = ((List.length l1 : Int) / 5)) = true) →
  ((decide ((v2 : Int) < ((List.length l1 : Int) / 5)) = true →
   ((decide ((((List.length l0 : Int) / 5) : Int) = ((List.length l1 : Int) / 5)) = true) ∧ ((decide ((((List.length l0 : Int) / 5) : Int) = ((List.length l1 : Int) / 5)) = true) →
   ((decide ((0 : Int) ≤ v2) = true ∧ decide ((v2 : Int) < ((List.length l1 : Int) / 5)) = true) ∧ ((decide ((0 : Int) ≤ v2) = true ∧ decide ((v2 : Int) < ((List.length l1 : Int) / 5)) = true) →
   ((decide ((((0 + v2) * 5) : Int) < (List.length l1 : Int)) = true) ∧ ((decide ((((0 + v2) * 5) : Int) < (List.length l1 : Int)) = true) →
   ∀ v3 : Int, v3 = (IntKind.wrap .i64 (v1 + 1)) →
   ((decide ((((List.length l0 : Int) / 5) : Int) = ((List.length l1 : Int) / 5)) = true) ∧ ((decide ((((List.length l0 : Int) / 5) : Int) = ((List.length l1 : Int) / 5)) = true) →
   ((decide ((0 : Int) ≤ v2) = true ∧ decide ((v2 : Int) < ((List.length l1 : Int) / 5)) = true ∧ decide (((0 + v2) : Int) < ((List.length (List.set l1 (Int.toNat ((0 + v2) * 5)) (IntKind.wrap .i8 v1)) : Int) / 5)) = true) ∧ ((decide ((0 : Int) ≤ v2) = true ∧ decide ((v2 : Int) < ((List.length l1 : Int) / 5)) = true ∧ decide (((0 + v2) : Int) < ((List.length (List.set l1 (Int.toNat ((0 + v2) * 5)) (IntKind.wrap .i8 v1)) : Int) / 5)) = true) →
   ((decide (((((0 + v2) * 5) + 1) : Int) < (List.length (List.set l1 (Int.toNat ((0 + v2) * 5)) (IntKind.wrap .i8 v1)) : Int)) = true) ∧ ((decide (((((0 + v2) * 5) + 1) : Int) < (List.length (List.set l1 (Int.toNat ((0 + v2) * 5)) (IntKind.wrap .i8 v1)) : Int)) = true) →
   ∀ v4 : Int, v4 = (IntKind.wrap .i64 (v3 + 1)) →
   ((decide ((((List.length l0 : Int) / 5) : Int) = ((List.length l1 : Int) / 5)) = true) ∧ ((decide ((((List.length l0 : Int) / 5) : Int) = ((List.length l1 : Int) / 5)) = true) →
   ((decide ((0 : Int) ≤ v2) = true ∧ decide ((v2 : Int) < ((List.length l1 : Int) / 5)) = true ∧ decide (((0 + v2) : Int) < ((List.length (List.set (List.set l1 (Int.toNat ((0 + v2) * 5)) (IntKind.wrap .i8 v1)) (Int.toNat (((0 + v2) * 5) + 1)) (IntKind.wrap .i8 v3)) : Int) / 5)) = true) ∧ ((decide ((0 : Int) ≤ v2) = true ∧ decide ((v2 : Int) < ((List.length l1 : Int) / 5)) = true ∧ decide (((0 + v2) : Int) < ((List.length (List.set (List.set l1 (Int.toNat ((0 + v2) * 5)) (IntKind.wrap .i8 v1)) (Int.toNat (((0 + v2) * 5) + 1)) (IntKind.wrap .i8 v3)) : Int) / 5)) = true) →
   ((decide (((((0 + v2) * 5) + 2) : Int) < (List.length (List.set (List.set l1 (Int.toNat ((0 + v2) * 5)) (IntKind.wrap .i8 v1)) (Int.toNat (((0 + v2) * 5) + 1)) (IntKind.wrap .i8 v3)) : Int)) = true) ∧ ((decide (((((0 + v2) * 5) + 2) : Int) < (List.length (List.set (List.set l1 (Int.toNat ((0 + v2) * 5)) (IntKind.wrap .i8 v1)) (Int.toNat (((0 + v2) * 5) + 1)) (IntKind.wrap .i8 v3)) : Int)) = true) →
   ∀ v5 : Int, v5 = (IntKind.wrap .i64 (v4 + 1)) →
   ((decide ((((List.length l0 : Int) / 5) : Int) = ((List.length l1 : Int) / 5)) = true) ∧ ((decide ((((List.length l0 : Int) / 5) : Int) = ((List.length l1 : Int) / 5)) = true) →
   ((decide ((0 : Int) ≤ v2) = true ∧ decide ((v2 : Int) < ((List.length l1 : Int) / 5)) = true ∧ decide (((0 + v2) : Int) < ((List.length (List.set (List.set (List.set l1 (Int.toNat ((0 + v2) * 5)) (IntKind.wrap .i8 v1)) (Int.toNat (((0 + v2) * 5) + 1)) (IntKind.wrap .i8 v3)) (Int.toNat (((0 + v2) * 5) + 2)) (IntKind.wrap .i16 v4)) : Int) / 5)) = true) ∧ ((decide ((0 : Int) ≤ v2) = true ∧ decide ((v2 : Int) < ((List.length l1 : Int) / 5)) = true ∧ decide (((0 + v2) : Int) < ((List.length (List.set (List.set (List.set l1 (Int.toNat ((0 + v2) * 5)) (IntKind.wrap .i8 v1)) (Int.toNat (((0 + v2) * 5) + 1)) (IntKind.wrap .i8 v3)) (Int.toNat (((0 + v2) * 5) + 2)) (IntKind.wrap .i16 v4)) : Int) / 5)) = true) →
   ((decide (((((0 + v2) * 5) + 3) : Int) < (List.length (List.set (List.set (List.set l1 (Int.toNat ((0 + v2) * 5)) (IntKind.wrap .i8 v1)) (Int.toNat (((0 + v2) * 5) + 1)) (IntKind.wrap .i8 v3)) (Int.toNat (((0 + v2) * 5) + 2)) (IntKind.wrap .i16 v4)) : Int)) = true) ∧ ((decide (((((0 + v2) * 5) + 3) : Int) < (List.length (List.set (List.set (List.set l1 (Int.toNat ((0 + v2) * 5)) (IntKind.wrap .i8 v1)) (Int.toNat (((0 + v2) * 5) + 1)) (IntKind.wrap .i8 v3)) (Int.toNat (((0 + v2) * 5) + 2)) (IntKind.wrap .i16 v4)) : Int)) = true) →
   ∀ v6 : Int, v6 = (IntKind.wrap .i64 (v5 + 1)) →
   ((decide ((((List.length l0 : Int) / 5) : Int) = ((List.length l1 : Int) / 5)) = true) ∧ ((decide ((((List.length l0 : Int) / 5) : Int) = ((List.length l1 : Int) / 5)) = true) →
   ((decide ((0 : Int) ≤ v2) = true ∧ decide ((v2 : Int) < ((List.length l1 : Int) / 5)) = true ∧ decide (((0 + v2) : Int) < ((List.length (List.set (List.set (List.set (List.set l1 (Int.toNat ((0 + v2) * 5)) (IntKind.wrap .i8 v1)) (Int.toNat (((0 + v2) * 5) + 1)) (IntKind.wrap .i8 v3)) (Int.toNat (((0 + v2) * 5) + 2)) (IntKind.wrap .i16 v4)) (Int.toNat (((0 + v2) * 5) + 3)) (IntKind.wrap .i16 v5)) : Int) / 5)) = true) ∧ ((decide ((0 : Int) ≤ v2) = true ∧ decide ((v2 : Int) < ((List.length l1 : Int) / 5)) = true ∧ decide (((0 + v2) : Int) < ((List.length (List.set (List.set (List.set (List.set l1 (Int.toNat ((0 + v2) * 5)) (IntKind.wrap .i8 v1)) (Int.toNat (((0 + v2) * 5) + 1)) (IntKind.wrap .i8 v3)) (Int.toNat (((0 + v2) * 5) + 2)) (IntKind.wrap .i16 v4)) (Int.toNat (((0 + v2) * 5) + 3)) (IntKind.wrap .i16 v5)) : Int) / 5)) = true) →
   ((decide (((((0 + v2) * 5) + 4) : Int) < (List.length (List.set (List.set (List.set (List.set l1 (Int.toNat ((0 + v2) * 5)) (IntKind.wrap .i8 v1)) (Int.toNat (((0 + v2) * 5) + 1)) (IntKind.wrap .i8 v3)) (Int.toNat (((0 + v2) * 5) + 2)) (IntKind.wrap .i16 v4)) (Int.toNat (((0 + v2) * 5) + 3)) (IntKind.wrap .i16 v5)) : Int)) = true) ∧ ((decide (((((0 + v2) * 5) + 4) : Int) < (List.length (List.set (List.set (List.set (List.set l1 (Int.toNat ((0 + v2) * 5)) (IntKind.wrap .i8 v1)) (Int.toNat (((0 + v2) * 5) + 1)) (IntKind.wrap .i8 v3)) (Int.toNat (((0 + v2) * 5) + 2)) (IntKind.wrap .i16 v4)) (Int.toNat (((0 + v2) * 5) + 3)) (IntKind.wrap .i16 v5)) : Int)) = true) →
   ∀ v7 : Int, v7 = (IntKind.wrap .i64 (v6 + 1)) →
   ∀ v8 : Int, v8 = (IntKind.wrap .i64 (v2 + 1)) →
   (allHas [⟨(-9223372036854775808), 9223372036854775807⟩, ⟨(-9223372036854775808), 9223372036854775807⟩] [v7, v8] ∧ I 1 ⟨[v0], [l0]⟩ ⟨[v7, v8], [(List.set (List.set (List.set (List.set (List.set l1 (Int.toNat ((0 + v2) * 5)) (IntKind.wrap .i8 v1)) (Int.toNat (((0 + v2) * 5) + 1)) (IntKind.wrap .i8 v3)) (Int.toNat (((0 + v2) * 5) + 2)) (IntKind.wrap .i16 v4)) (Int.toNat (((0 + v2) * 5) + 3)) (IntKind.wrap .i16 v5)) (Int.toNat (((0 + v2) * 5) + 4)) (IntKind.wrap .i16 v6))]⟩ ∧ M 1 ⟨[v0], [l0]⟩ ⟨[v7, v8], [(List.set (List.set (List.set (List.set (List.set l1 (Int.toNat ((0 + v2) * 5)) (IntKind.wrap .i8 v1)) (Int.toNat (((0 + v2) * 5) + 1)) (IntKind.wrap .i8 v3)) (Int.toNat (((0 + v2) * 5) + 2)) (IntKind.wrap .i16 v4)) (Int.toNat (((0 + v2) * 5) + 3)) (IntKind.wrap .i16 v5)) (Int.toNat (((0 + v2) * 5) + 4)) (IntKind.wrap .i16 v6))]⟩ < M 1 ⟨[v0], [l0]⟩ ⟨[v1, v2], [l1]⟩)))))))))))))))))))))))))))))))) ∧ (decide ((v2 : Int) < ((List.length l1 : Int) / 5)) = false →
   ((decide (((List.length l1 : Int) : Int) = (List.length l0 : Int)) = true) ∧ ((decide (((List.length l1 : Int) : Int) = (List.length l0 : Int)) = true) →
   post [v1] [l1])))))))))
set_option linter.unusedVariables false in
def r54 (T : Tab) (I : Nat → Env → Env → Prop) (M : Nat → Env → Env → Nat) (pre : Nat → List Int → List (List Int) → Prop) (post : List Int → List (List Int) → Prop) (v0 : Int) : Prop :=
 post [v0] [([] : List Int)]
theorem q54 (T : Tab) (I : Nat → Env → Env → Prop) (M : Nat → Env → Env → Nat) (pre : Nat → List Int → List (List Int) → Prop) (post : List Int → List (List Int) → Prop) (v0 : Int) (l0 : List Int) : t54.plain T (presG pre I M) post ⟨[v0], [l0]⟩ = p54 T I M pre post v0 l0 := by kernel_rfl
theorem qn54 (T : Tab) (I : Nat → Env → Env → Prop) (M : Nat → Env → Env → Nat) (pre : Nat → List Int → List (List Int) → Prop) (post : List Int → List (List Int) → Prop) (v0 : Int) : u54.plain T (presG pre I M) post ⟨[v0], []⟩ = r54 T I M pre post v0 := by kernel_rfl
theorem k54 (T : Tab) (I : Nat → Env → Env → Prop) (M : Nat → Env → Env → Nat) (pre : Nat → List Int → List (List Int) → Prop) (hs : SubSig T c54.sigs) (ht : TotG pre c54.sigs) (hC : CtAll Try.prog T.fns (presQ pre) c54.sigs) (hk : CpAll Try.prog c54.cps) (hi : ∀ xs ls, allHas (parIvs s54.params) xs → pre 54 xs ls → allHas iv54 xs)
    (ho : ∀ (v0 : Int) (l0 : List Int), allHas iv54 [v0] → allL [s54.lv] [l0] → pre 54 [v0] [l0] → p54 T I M pre (fun ys zs => T.fns 54 [v0] [l0] = (ys, zs)) v0 l0)
    (hn : ∀ (v0 : Int), allHas iv54 [v0] → pre 54 [v0] [[]] → r54 T I M pre (fun ys zs => T.fns 54 [v0] [[]] = (ys, zs)) v0) : CTW Try.prog T.fns (presQ pre) 54 s54 :=
  T.ctw (F := ⟨c54, [(2, ⟨1, [1, 5], [], [7, 8, 9, 10, 13, 14, 15, 16, 17, 18, 19, 20, 21, 22, 23, 24, 25, 26, 27, 28, 6, 29, 30, 33, 34, 35, 36, 37, 38, 39, 40, 41, 42, 31, 32, 11, 12], [⟨(-9223372036854775808), 9223372036854775807⟩, ⟨(-9223372036854775808), 9223372036854775807⟩], [0], []⟩)]⟩) (fuel := 250) vc54 vd54 Try.checked.mixed hs ht hC hk Try.func54 I M hi (fun xs l hx hl hp => by
    match xs, hx, hp with
    | [v0], hx, hp => rw [q54]; exact ho v0 l hx hl hp) fun xs hx hp => by
    match xs, hx, hp with
    | [v0], hx, hp => rw [qn54]; exact hn v0 hx hp
/-- loop.example/g01242/laws.markTree -/
def s24 : WSig := ⟨[.i8, .i8, .i16, .i16, .i16], 60, [.i .i64], [(false, [.i .i64])], false, true⟩
noncomputable def c24 : Cfg := ⟨Try.prog, [], [], [], [(54, s54)], [], []⟩
def iv24 : List Iv := [⟨(-9223372036854775808), 9223372036854775807⟩]
def t24 : VC :=
 (.need [(.pre 54 (.l (.var 0) (.e (.var 0) .nil)))]
 (.calll 54 (.l (.var 0) (.e (.var 0) .nil)) [⟨(-9223372036854775808), 9223372036854775807⟩] [(⟨(-32768), 32767⟩, 46116860184273879035)]
 (.need [(.b (.eq (.len (.var 1)) (.len (.var 0))))]
 (.fin (.e (.var 1) (.l (.var 1) .nil))))))
def u24 : VC :=
 (.need [(.pre 54 (.l (.lit []) (.e (.var 0) .nil)))]
 (.calll 54 (.l (.lit []) (.e (.var 0) .nil)) [⟨(-9223372036854775808), 9223372036854775807⟩] [(⟨(-32768), 32767⟩, 46116860184273879035)]
 (.fin (.e (.var 1) (.l (.lit []) .nil)))))
theorem vc24 : vcWf ⟨c24, []⟩ iv24 250 Try.f24 s24 true = t24 := by kernel_rfl
theorem vd24 : vcWf ⟨c24, []⟩ iv24 250 Try.f24 s24 false = u24 := by kernel_rfl
set_option linter.unusedVariables false in
def p24 (T : Tab) (I : Nat → Env → Env → Prop) (M : Nat → Env → Env → Nat) (pre : Nat → List Int → List (List Int) → Prop) (post : List Int → List (List Int) → Prop) (v0 : Int) (l0 : List Int) : Prop :=
 ((pre 54 [v0] [l0]) ∧ ((pre 54 [v0] [l0]) →
 ∀ v1 : Int, ∀ l1 : List Int, allHas [⟨(-9223372036854775808), 9223372036854775807⟩] [v1] → allL [(⟨(-32768), 32767⟩, 46116860184273879035)] [l1] → ([v1], [l1]) = T.fns 54 [v0] [l0] →
 ((decide (((List.length l1 : Int) : Int) = (List.length l0 : Int)) = true) ∧ ((decide (((List.length l1 : Int) : Int) = (List.length l0 : Int)) = true) →
 post [v1] [l1]))))
set_option linter.unusedVariables false in
def r24 (T : Tab) (I : Nat → Env → Env → Prop) (M : Nat → Env → Env → Nat) (pre : Nat → List Int → List (List Int) → Prop) (post : List Int → List (List Int) → Prop) (v0 : Int) : Prop :=
 ((pre 54 [v0] [([] : List Int)]) ∧ ((pre 54 [v0] [([] : List Int)]) →
 ∀ v1 : Int, ∀ l0 : List Int, allHas [⟨(-9223372036854775808), 9223372036854775807⟩] [v1] → allL [(⟨(-32768), 32767⟩, 46116860184273879035)] [l0] → ([v1], [l0]) = T.fns 54 [v0] [([] : List Int)] →
 post [v1] [([] : List Int)]))
theorem q24 (T : Tab) (I : Nat → Env → Env → Prop) (M : Nat → Env → Env → Nat) (pre : Nat → List Int → List (List Int) → Prop) (post : List Int → List (List Int) → Prop) (v0 : Int) (l0 : List Int) : t24.plain T (presG pre I M) post ⟨[v0], [l0]⟩ = p24 T I M pre post v0 l0 := by kernel_rfl
theorem qn24 (T : Tab) (I : Nat → Env → Env → Prop) (M : Nat → Env → Env → Nat) (pre : Nat → List Int → List (List Int) → Prop) (post : List Int → List (List Int) → Prop) (v0 : Int) : u24.plain T (presG pre I M) post ⟨[v0], []⟩ = r24 T I M pre post v0 := by kernel_rfl
theorem k24 (T : Tab) (I : Nat → Env → Env → Prop) (M : Nat → Env → Env → Nat) (pre : Nat → List Int → List (List Int) → Prop) (hs : SubSig T c24.sigs) (ht : TotG pre c24.sigs) (hC : CtAll Try.prog T.fns (presQ pre) c24.sigs) (hk : CpAll Try.prog c24.cps) (hwf : WfAll Try.prog T.fns (presQ pre) c24.wfs) (hi : ∀ xs ls, allHas (parIvs s24.params) xs → pre 24 xs ls → allHas iv24 xs)
    (ho : ∀ (v0 : Int) (l0 : List Int), allHas iv24 [v0] → allL [s24.lv] [l0] → pre 24 [v0] [l0] → p24 T I M pre (fun ys zs => T.fns 24 [v0] [l0] = (ys, zs)) v0 l0)
    (hn : ∀ (v0 : Int), allHas iv24 [v0] → pre 24 [v0] [[]] → r24 T I M pre (fun ys zs => T.fns 24 [v0] [[]] = (ys, zs)) v0) : CTW Try.prog T.fns (presQ pre) 24 s24 :=
  T.ctw (hwf := hwf) (F := ⟨c24, []⟩) (fuel := 250) vc24 vd24 Try.checked.mixed hs ht hC hk Try.func24 I M hi (fun xs l hx hl hp => by
    match xs, hx, hp with
    | [v0], hx, hp => rw [q24]; exact ho v0 l hx hl hp) fun xs hx hp => by
    match xs, hx, hp with
    | [v0], hx, hp => rw [qn24]; exact hn v0 hx hp
/-- loop.example/g01242/laws.heldForkS -/
def s55 : Sig := ⟨[.lst [.i8, .i8, .i16, .i16, .i16], .val false [.i .i64]], [(false, [.i .i64])], false⟩
noncomputable def c55 : Cfg := ⟨Try.prog, [], [], [], [], [], []⟩
def iv55 : List Iv := [⟨(-9223372036854775808), 9223372036854775807⟩]
def t55 : VC :=
 (.loop 1 [(.var 0), (.lit 0)] [] [⟨(-9223372036854775808), 9223372036854775807⟩, ⟨(-9223372036854775808), 9223372036854775807⟩] []
  (.ite (.lt (.var 2) (.div (.len (.var 0)) (.lit 5)))
   (.need [(.b (.le (.lit 0) (.var 2))), (.b (.lt (.var 2) (.div (.len (.var 0)) (.lit 5))))]
   (.need [(.b (.lt (.mul (.add (.lit 0) (.var 2)) (.lit 5)) (.len (.var 0))))]
   (.bind (.wrap .i8 (.at (.var 0) (.mul (.add (.lit 0) (.var 2)) (.lit 5))))
   (.ite (.not (.eq (.var 3) (.wrap .i8 (.var 1))))
    (.fin (.e (.lit (-1)) .nil))
    (.bind (.wrap .i64 (.add (.var 1) (.lit 1)))
    (.need [(.b (.le (.lit 0) (.var 2))), (.b (.lt (.var 2) (.div (.len (.var 0)) (.lit 5))))]
    (.need [(.b (.lt (.add (.mul (.add (.lit 0) (.var 2)) (.lit 5)) (.lit 1)) (.len (.var 0))))]
    (.bind (.wrap .i8 (.at (.var 0) (.add (.mul (.add (.lit 0) (.var 2)) (.lit 5)) (.lit 1))))
    (.ite (.not (.eq (.var 5) (.wrap .i8 (.var 4))))
     (.fin (.e (.lit (-1)) .nil))
     (.bind (.wrap .i64 (.add (.var 4) (.lit 1)))
     (.need [(.b (.le (.lit 0) (.var 2))), (.b (.lt (.var 2) (.div (.len (.var 0)) (.lit 5))))]
     (.need [(.b (.lt (.add (.mul (.add (.lit 0) (.var 2)) (.lit 5)) (.lit 2)) (.len (.var 0))))]
     (.bind (.at (.var 0) (.add (.mul (.add (.lit 0) (.var 2)) (.lit 5)) (.lit 2)))
     (.ite (.not (.eq (.var 7) (.wrap .i16 (.var 6))))
      (.fin (.e (.lit (-1)) .nil))
      (.bind (.wrap .i64 (.add (.var 6) (.lit 1)))
      (.need [(.b (.le (.lit 0) (.var 2))), (.b (.lt (.var 2) (.div (.len (.var 0)) (.lit 5))))]
      (.need [(.b (.lt (.add (.mul (.add (.lit 0) (.var 2)) (.lit 5)) (.lit 3)) (.len (.var 0))))]
      (.bind (.at (.var 0) (.add (.mul (.add (.lit 0) (.var 2)) (.lit 5)) (.lit 3)))
      (.ite (.not (.eq (.var 9) (.wrap .i16 (.var 8))))
       (.fin (.e (.lit (-1)) .nil))
       (.bind (.wrap .i64 (.add (.var 8) (.lit 1)))
       (.need [(.b (.le (.lit 0) (.var 2))), (.b (.lt (.var 2) (.div (.len (.var 0)) (.lit 5))))]
       (.need [(.b (.lt (.add (.mul (.add (.lit 0) (.var 2)) (.lit 5)) (.lit 4)) (.len (.var 0))))]
       (.bind (.at (.var 0) (.add (.mul (.add (.lit 0) (.var 2)) (.lit 5)) (.lit 4)))
       (.ite (.not (.eq (.var 11) (.wrap .i16 (.var 10))))
        (.fin (.e (.lit (-1)) .nil))
        (.bind (.wrap .i64 (.add (.var 10) (.lit 1)))
        (.bind (.wrap .i64 (.add (.var 2) (.lit 1)))
        (.again 1 1 1 [⟨(-9223372036854775808), 9223372036854775807⟩, ⟨(-9223372036854775808), 9223372036854775807⟩] [(.var 12), (.var 13)] [])))))))))))))))))))))))))))
   (.fin (.e (.var 1) .nil))))
theorem vc55 : vcOfI ⟨c55, [(2, ⟨1, [1, 5], [], [7, 8, 9, 10, 13, 14, 15, 16, 17, 18, 19, 20, 4, 21, 22, 23, 24, 25, 26, 27, 28, 29, 30, 31, 32, 6, 33, 34, 37, 38, 39, 40, 41, 42, 43, 44, 45, 46, 47, 48, 35, 36, 11, 12], [⟨(-9223372036854775808), 9223372036854775807⟩, ⟨(-9223372036854775808), 9223372036854775807⟩], [], []⟩)]⟩ iv55 (parLvs s55.params) 250 Try.f55 s55 = t55 := by kernel_rfl
set_option linter.unusedVariables false in
def p55 (T : Tab) (I : Nat → Env → Env → Prop) (M : Nat → Env → Env → Nat) (pre : Nat → List Int → List (List Int) → Prop) (post : List Int → List (List Int) → Prop) (v0 : Int) (l0 : List Int) : Prop :=
 ((allHas [⟨(-9223372036854775808), 9223372036854775807⟩, ⟨(-9223372036854775808), 9223372036854775807⟩] [v0, 0] ∧ I 1 ⟨[v0], [l0]⟩ ⟨[v0, 0], []⟩) ∧ ∀ v1 v2 : Int, allHas [⟨(-9223372036854775808), 9223372036854775807⟩, ⟨(-9223372036854775808), 9223372036854775807⟩] [v1, v2] → I 1 ⟨[v0], [l0]⟩ ⟨[v1, v2], []⟩ →
  ((decide ((v2 : Int) < ((List.length l0 : Int) / 5)) = true →
   ((decide ((0 : Int) ≤ v2) = true ∧ decide ((v2 : Int) < ((List.length l0 : Int) / 5)) = true) ∧ ((decide ((0 : Int) ≤ v2) = true ∧ decide ((v2 : Int) < ((List.length l0 : Int) / 5)) = true) →
   ((decide ((((0 + v2) * 5) : Int) < (List.length l0 : Int)) = true) ∧ ((decide ((((0 + v2) * 5) : Int) < (List.length l0 : Int)) = true) →
   ∀ v3 : Int, v3 = (IntKind.wrap .i8 (List.getD l0 (Int.toNat ((0 + v2) * 5)) 0)) →
   (((!decide ((v3 : Int) = (IntKind.wrap .i8 v1))) = true →
    post [(-1)] []) ∧ ((!decide ((v3 : Int) = (IntKind.wrap .i8 v1))) = false →
    ∀ v4 : Int, v4 = (IntKind.wrap .i64 (v1 + 1)) →
    ((decide ((0 : Int) ≤ v2) = true ∧ decide ((v2 : Int) < ((List.length l0 : Int) / 5)) = true) ∧ ((decide ((0 : Int) ≤ v2) = true ∧ decide ((v2 : Int) < ((List.length l0 : Int) / 5)) = true) →
    ((decide (((((0 + v2) * 5) + 1) : Int) < (List.length l0 : Int)) = true) ∧ ((decide (((((0 + v2) * 5) + 1) : Int) < (List.length l0 : Int)) = true) →
    ∀ v5 : Int, v5 = (IntKind.wrap .i8 (List.getD l0 (Int.toNat (((0 + v2) * 5) + 1)) 0)) →
    (((!decide ((v5 : Int) = (IntKind.wrap .i8 v4))) = true →
     post [(-1)] []) ∧ ((!decide ((v5 : Int) = (IntKind.wrap .i8 v4))) = false →
     ∀ v6 : Int, v6 = (IntKind.wrap .i64 (v4 + 1)) →
     ((decide ((0 : Int) ≤ v2) = true ∧ decide ((v2 : Int) < ((List.length l0 : Int) / 5)) = true) ∧ ((decide ((0 : Int) ≤ v2) = true ∧ decide ((v2 : Int) < ((List.length l0 : Int) / 5)) = true) →
     ((decide (((((0 + v2) * 5) + 2) : Int) < (List.length l0 : Int)) = true) ∧ ((decide (((((0 + v2) * 5) + 2) : Int) < (List.length l0 : Int)) = true) →
     ∀ v7 : Int, v7 = (List.getD l0 (Int.toNat (((0 + v2) * 5) + 2)) 0) →
     (((!decide ((v7 : Int) = (IntKind.wrap .i16 v6))) = true →
      post [(-1)] []) ∧ ((!decide ((v7 : Int) = (IntKind.wrap .i16 v6))) = false →
      ∀ v8 : Int, v8 = (IntKind.wrap .i64 (v6 + 1)) →
      ((decide ((0 : Int) ≤ v2) = true ∧ decide ((v2 : Int) < ((List.length l0 : Int) / 5)) = true) ∧ ((decide ((0 : Int) ≤ v2) = true ∧ decide ((v2 : Int) < ((List.length l0 : Int) / 5)) = true) →
      ((decide (((((0 + v2) * 5) + 3) : Int) < (List.length l0 : Int)) = true) ∧ ((decide (((((0 + v2) * 5) + 3) : Int) < (List.length l0 : Int)) = true) →
      ∀ v9 : Int, v9 = (List.getD l0 (Int.toNat (((0 + v2) * 5) + 3)) 0) →
      (((!decide ((v9 : Int) = (IntKind.wrap .i16 v8))) = true →
       post [(-1)] []) ∧ ((!decide ((v9 : Int) = (IntKind.wrap .i16 v8))) = false →
       ∀ v10 : Int, v10 = (IntKind.wrap .i64 (v8 + 1)) →
       ((decide ((0 : Int) ≤ v2) = true ∧ decide ((v2 : Int) < ((List.length l0 : Int) / 5)) = true) ∧ ((decide ((0 : Int) ≤ v2) = true ∧ decide ((v2 : Int) < ((List.length l0 : Int) / 5)) = true) →
       ((decide (((((0 + v2) * 5) + 4) : Int) < (List.length l0 : Int)) = true) ∧ ((decide (((((0 + v2) * 5) + 4) : Int) < (List.length l0 : Int)) = true) →
       ∀ v11 : Int, v11 = (List.getD l0 (Int.toNat (((0 + v2) * 5) + 4)) 0) →
       (((!decide ((v11 : Int) = (IntKind.wrap .i16 v10))) = true →
        post [(-1)] []) ∧ ((!decide ((v11 : Int) = (IntKind.wrap .i16 v10))) = false →
        ∀ v12 : Int, v12 = (IntKind.wrap .i64 (v10 + 1)) →
        ∀ v13 : Int, v13 = (IntKind.wrap .i64 (v2 + 1)) →
        (allHas [⟨(-9223372036854775808), 9223372036854775807⟩, ⟨(-9223372036854775808), 9223372036854775807⟩] [v12, v13] ∧ I 1 ⟨[v0], [l0]⟩ ⟨[v12, v13], []⟩ ∧ M 1 ⟨[v0], [l0]⟩ ⟨[v12, v13], []⟩ < M 1 ⟨[v0], [l0]⟩ ⟨[v1, v2], []⟩)))))))))))))))))))))))))))))))) ∧ (decide ((v2 : Int) < ((List.length l0 : Int) / 5)) = false →
   post [v1] [])))
theorem q55 (T : Tab) (I : Nat → Env → Env → Prop) (M : Nat → Env → Env → Nat) (pre : Nat → List Int → List (List Int) → Prop) (post : List Int → List (List Int) → Prop) (v0 : Int) (l0 : List Int) : t55.plain T (presG pre I M) post ⟨[v0], [l0]⟩ = p55 T I M pre post v0 l0 := by kernel_rfl
theorem k55 (T : Tab) (I : Nat → Env → Env → Prop) (M : Nat → Env → Env → Nat) (pre : Nat → List Int → List (List Int) → Prop) (hs : SubSig T c55.sigs) (ht : TotG pre c55.sigs) (hg : T.sig 55 = some s55) (hC : CtAll Try.prog T.fns (presQ pre) c55.sigs) (hk : CpAll Try.prog c55.cps) (hi : ∀ xs ls, allHas (parIvs s55.params) xs → pre 55 xs ls → allHas iv55 xs)
    (h : ∀ (v0 : Int) (l0 : List Int), allHas iv55 [v0] → allL (parLvs s55.params) [l0] → pre 55 [v0] [l0] → p55 T I M pre (fun ys _ => ys = T.app 55 [v0] [l0]) v0 l0) : CT Try.prog T.fns (presQ pre) 55 s55 :=
  T.ctg (F := ⟨c55, [(2, ⟨1, [1, 5], [], [7, 8, 9, 10, 13, 14, 15, 16, 17, 18, 19, 20, 4, 21, 22, 23, 24, 25, 26, 27, 28, 29, 30, 31, 32, 6, 33, 34, 37, 38, 39, 40, 41, 42, 43, 44, 45, 46, 47, 48, 35, 36, 11, 12], [⟨(-9223372036854775808), 9223372036854775807⟩, ⟨(-9223372036854775808), 9223372036854775807⟩], [], []⟩)]⟩) (fuel := 250) vc55 Try.checked.mixed hs ht hg hC hk Try.func55 I M (fun xs ls h1 h2 h3 => ⟨hi xs ls h1 h3, h2⟩) fun xs ls hx hl hp => by
    match xs, ls, hx, hl, hp with
    | [v0], [l0], hx, hl, hp => rw [q55]; exact h v0 l0 hx hl hp
/-- loop.example/g01242/laws.heldTree -/
def s25 : Sig := ⟨[.lsts [[.i8, .i8, .i16, .i16, .i16]], .val false [.i .i64]], [(false, [.i .i64])], false⟩
noncomputable def c25 : Cfg := ⟨Try.prog, [(55, s55)], [], [], [], [], []⟩
def iv25 : List Iv := [⟨(-9223372036854775808), 9223372036854775807⟩]
def t25 : VC :=
 (.need [(.pre 55 (.l (.var 0) (.e (.var 0) .nil)))]
 (.call 55 (.l (.var 0) (.e (.var 0) .nil)) 1
 (.ite (.lt (.var 1) (.lit 0))
  (.fin (.e (.lit (-1)) .nil))
  (.fin (.e (.var 1) .nil)))))
theorem vc25 : vcOfI ⟨c25, []⟩ iv25 (parLvs s25.params) 250 Try.f25 s25 = t25 := by kernel_rfl
set_option linter.unusedVariables false in
def p25 (T : Tab) (I : Nat → Env → Env → Prop) (M : Nat → Env → Env → Nat) (pre : Nat → List Int → List (List Int) → Prop) (post : List Int → List (List Int) → Prop) (v0 : Int) (l0 : List Int) : Prop :=
 ((pre 55 [v0] [l0]) ∧ ((pre 55 [v0] [l0]) →
 ∀ v1 : Int, [v1] = T.outL 55 1 [v0] [l0] →
 ((decide ((v1 : Int) < 0) = true →
  post [(-1)] []) ∧ (decide ((v1 : Int) < 0) = false →
  post [v1] []))))
theorem q25 (T : Tab) (I : Nat → Env → Env → Prop) (M : Nat → Env → Env → Nat) (pre : Nat → List Int → List (List Int) → Prop) (post : List Int → List (List Int) → Prop) (v0 : Int) (l0 : List Int) : t25.plain T (presG pre I M) post ⟨[v0], [l0]⟩ = p25 T I M pre post v0 l0 := by kernel_rfl
theorem k25 (T : Tab) (I : Nat → Env → Env → Prop) (M : Nat → Env → Env → Nat) (pre : Nat → List Int → List (List Int) → Prop) (hs : SubSig T c25.sigs) (ht : TotG pre c25.sigs) (hg : T.sig 25 = some s25) (hC : CtAll Try.prog T.fns (presQ pre) c25.sigs) (hk : CpAll Try.prog c25.cps) (hi : ∀ xs ls, allHas (parIvs s25.params) xs → pre 25 xs ls → allHas iv25 xs)
    (h : ∀ (v0 : Int) (l0 : List Int), allHas iv25 [v0] → allL (parLvs s25.params) [l0] → pre 25 [v0] [l0] → p25 T I M pre (fun ys _ => ys = T.app 25 [v0] [l0]) v0 l0) : CT Try.prog T.fns (presQ pre) 25 s25 :=
  T.ctg (F := ⟨c25, []⟩) (fuel := 250) vc25 Try.checked.mixed hs ht hg hC hk Try.func25 I M (fun xs ls h1 h2 h3 => ⟨hi xs ls h1 h3, h2⟩) fun xs ls hx hl hp => by
    match xs, ls, hx, hl, hp with
    | [v0], [l0], hx, hl, hp => rw [q25]; exact h v0 l0 hx hl hp
/-- loop.example/g01242/laws.FnExactEchoTree -/
def s6 : Sig := ⟨[], [(false, [.b])], true⟩
noncomputable def c6 : Cfg := ⟨Try.prog, [(17, s17), (25, s25)], [], [(22, s22), (23, s23)], [(24, s24)], [], []⟩
def iv6 : List Iv := []
def t6 : VC :=
 (.calll 22 .nil [⟨0, 1⟩] [(⟨(-32768), 32767⟩, 1099511627776)]
 (.ite (.eq (.var 0) (.lit 1))
  (.calll 23 .nil [⟨0, 1⟩] [(⟨(-32768), 32767⟩, 1099511627776)]
  (.ite (.eq (.var 1) (.lit 1))
   (.call 17 (.l (.lit []) (.l (.lit []) .nil)) 1
   (.ite (.not (.eq (.var 2) (.lit 1)))
    (.fin (.e (.lit 0) .nil))
    (.need [(.pre 24 (.l (.lit []) (.e (.lit 1) .nil)))]
    (.calll 24 (.l (.lit []) (.e (.lit 1) .nil)) [⟨(-9223372036854775808), 9223372036854775807⟩] [(⟨(-32768), 32767⟩, 46116860184273879035)]
    (.need [(.pre 25 (.l (.lit []) (.e (.lit 1) .nil)))]
    (.call 25 (.l (.lit []) (.e (.lit 1) .nil)) 1
    (.ite (.lt (.var 4) (.lit 0))
     (.fin (.e (.lit 0) .nil))
     (.ite (.not (.eq (.var 4) (.var 3)))
      (.fin (.e (.lit 0) .nil))
      (.calll 23 .nil [⟨0, 1⟩] [(⟨(-32768), 32767⟩, 1099511627776)]
      (.ite (.eq (.var 5) (.lit 1))
       (.call 17 (.l (.lit []) (.l (.lit []) .nil)) 1
       (.ite (.not (.eq (.var 6) (.lit 1)))
        (.fin (.e (.lit 0) .nil))
        (.need [(.pre 25 (.l (.lit []) (.e (.lit 1) .nil)))]
        (.call 25 (.l (.lit []) (.e (.lit 1) .nil)) 1
        (.ite (.lt (.var 7) (.lit 0))
         (.fin (.e (.lit 0) .nil))
         (.ite (.not (.eq (.var 7) (.var 3)))
          (.fin (.e (.lit 0) .nil))
          (.fin (.e (.lit 1) .nil))))))))
       (.call 17 (.l (.var 3) (.l (.lit []) .nil)) 1
       (.ite (.not (.eq (.var 6) (.lit 1)))
        (.fin (.e (.lit 0) .nil))
        (.need [(.pre 25 (.l (.lit []) (.e (.lit 1) .nil)))]
        (.call 25 (.l (.lit []) (.e (.lit 1) .nil)) 1
        (.ite (.lt (.var 7) (.lit 0))
         (.fin (.e (.lit 0) .nil))
         (.ite (.not (.eq (.var 7) (.var 3)))
          (.fin (.e (.lit 0) .nil))
          (.fin (.e (.lit 1) .nil))))))))))))))))))
   (.call 17 (.l (.var 1) (.l (.lit []) .nil)) 1
   (.ite (.not (.eq (.var 2) (.lit 1)))
    (.fin (.e (.lit 0) .nil))
    (.need [(.pre 24 (.l (.var 1) (.e (.lit 1) .nil)))]
    (.calll 24 (.l (.var 1) (.e (.lit 1) .nil)) [⟨(-9223372036854775808), 9223372036854775807⟩] [(⟨(-32768), 32767⟩, 46116860184273879035)]
    (.need [(.pre 25 (.l (.var 2) (.e (.lit 1) .nil)))]
    (.call 25 (.l (.var 2) (.e (.lit 1) .nil)) 1
    (.ite (.lt (.var 4) (.lit 0))
     (.fin (.e (.lit 0) .nil))
     (.ite (.not (.eq (.var 4) (.var 3)))
      (.fin (.e (.lit 0) .nil))
      (.calll 23 .nil [⟨0, 1⟩] [(⟨(-32768), 32767⟩, 1099511627776)]
      (.ite (.eq (.var 5) (.lit 1))
       (.call 17 (.l (.lit []) (.l (.lit []) .nil)) 1
       (.ite (.not (.eq (.var 6) (.lit 1)))
        (.fin (.e (.lit 0) .nil))
        (.need [(.pre 25 (.l (.var 2) (.e (.lit 1) .nil)))]
        (.call 25 (.l (.var 2) (.e (.lit 1) .nil)) 1
        (.ite (.lt (.var 7) (.lit 0))
         (.fin (.e (.lit 0) .nil))
         (.ite (.not (.eq (.var 7) (.var 3)))
          (.fin (.e (.lit 0) .nil))
          (.fin (.e (.lit 1) .nil))))))))
       (.call 17 (.l (.var 3) (.l (.lit []) .nil)) 1
       (.ite (.not (.eq (.var 6) (.lit 1)))
        (.fin (.e (.lit 0) .nil))
        (.need [(.pre 25 (.l (.var 2) (.e (.lit 1) .nil)))]
        (.call 25 (.l (.var 2) (.e (.lit 1) .nil)) 1
        (.ite (.lt (.var 7) (.lit 0))
         (.fin (.e (.lit 0) .nil))
         (.ite (.not (.eq (.var 7) (.var 3)))
          (.fin (.e (.lit 0) .nil))
          (.fin (.e (.lit 1) .nil))))))))))))))))))))
  (.calll 23 .nil [⟨0, 1⟩] [(⟨(-32768), 32767⟩, 1099511627776)]
  (.ite (.eq (.var 1) (.lit 1))
   (.call 17 (.l (.lit []) (.l (.var 0) .nil)) 1
   (.ite (.not (.eq (.var 2) (.lit 1)))
    (.fin (.e (.lit 0) .nil))
    (.need [(.pre 24 (.l (.lit []) (.e (.lit 1) .nil)))]
    (.calll 24 (.l (.lit []) (.e (.lit 1) .nil)) [⟨(-9223372036854775808), 9223372036854775807⟩] [(⟨(-32768), 32767⟩, 46116860184273879035)]
    (.need [(.pre 25 (.l (.lit []) (.e (.lit 1) .nil)))]
    (.call 25 (.l (.lit []) (.e (.lit 1) .nil)) 1
    (.ite (.lt (.var 4) (.lit 0))
     (.fin (.e (.lit 0) .nil))
     (.ite (.not (.eq (.var 4) (.var 3)))
      (.fin (.e (.lit 0) .nil))
      (.calll 23 .nil [⟨0, 1⟩] [(⟨(-32768), 32767⟩, 1099511627776)]
      (.ite (.eq (.var 5) (.lit 1))
       (.call 17 (.l (.lit []) (.l (.var 0) .nil)) 1
       (.ite (.not (.eq (.var 6) (.lit 1)))
        (.fin (.e (.lit 0) .nil))
        (.need [(.pre 25 (.l (.lit []) (.e (.lit 1) .nil)))]
        (.call 25 (.l (.lit []) (.e (.lit 1) .nil)) 1
        (.ite (.lt (.var 7) (.lit 0))
         (.fin (.e (.lit 0) .nil))
         (.ite (.not (.eq (.var 7) (.var 3)))
          (.fin (.e (.lit 0) .nil))
          (.fin (.e (.lit 1) .nil))))))))
       (.call 17 (.l (.var 3) (.l (.var 0) .nil)) 1
       (.ite (.not (.eq (.var 6) (.lit 1)))
        (.fin (.e (.lit 0) .nil))
        (.need [(.pre 25 (.l (.lit []) (.e (.lit 1) .nil)))]
        (.call 25 (.l (.lit []) (.e (.lit 1) .nil)) 1
        (.ite (.lt (.var 7) (.lit 0))
         (.fin (.e (.lit 0) .nil))
         (.ite (.not (.eq (.var 7) (.var 3)))
          (.fin (.e (.lit 0) .nil))
          (.fin (.e (.lit 1) .nil))))))))))))))))))
   (.call 17 (.l (.var 1) (.l (.var 0) .nil)) 1
   (.ite (.not (.eq (.var 2) (.lit 1)))
    (.fin (.e (.lit 0) .nil))
    (.need [(.pre 24 (.l (.var 1) (.e (.lit 1) .nil)))]
    (.calll 24 (.l (.var 1) (.e (.lit 1) .nil)) [⟨(-9223372036854775808), 9223372036854775807⟩] [(⟨(-32768), 32767⟩, 46116860184273879035)]
    (.need [(.pre 25 (.l (.var 2) (.e (.lit 1) .nil)))]
    (.call 25 (.l (.var 2) (.e (.lit 1) .nil)) 1
    (.ite (.lt (.var 4) (.lit 0))
     (.fin (.e (.lit 0) .nil))
     (.ite (.not (.eq (.var 4) (.var 3)))
      (.fin (.e (.lit 0) .nil))
      (.calll 23 .nil [⟨0, 1⟩] [(⟨(-32768), 32767⟩, 1099511627776)]
      (.ite (.eq (.var 5) (.lit 1))
       (.call 17 (.l (.lit []) (.l (.var 0) .nil)) 1
       (.ite (.not (.eq (.var 6) (.lit 1)))
        (.fin (.e (.lit 0) .nil))
        (.need [(.pre 25 (.l (.var 2) (.e (.lit 1) .nil)))]
        (.call 25 (.l (.var 2) (.e (.lit 1) .nil)) 1
        (.ite (.lt (.var 7) (.lit 0))
         (.fin (.e (.lit 0) .nil))
         (.ite (.not (.eq (.var 7) (.var 3)))
          (.fin (.e (.lit 0) .nil))
          (.fin (.e (.lit 1) .nil))))))))
       (.call 17 (.l (.var 3) (.l (.var 0) .nil)) 1
       (.ite (.not (.eq (.var 6) (.lit 1)))
        (.fin (.e (.lit 0) .nil))
        (.need [(.pre 25 (.l (.var 2) (.e (.lit 1) .nil)))]
        (.call 25 (.l (.var 2) (.e (.lit 1) .nil)) 1
        (.ite (.lt (.var 7) (.lit 0))
         (.fin (.e (.lit 0) .nil))
         (.ite (.not (.eq (.var 7) (.var 3)))
          (.fin (.e (.lit 0) .nil))
          (.fin (.e (.lit 1) .nil))))))))))))))))))))))
theorem vc6 : vcOfI ⟨c6, []⟩ iv6 (parLvs s6.params) 250 Try.f6 s6 = t6 := by kernel_rfl
set_option linter.unusedVariables false in
def p6 (T : Tab) (I : Nat → Env → Env → Prop) (M : Nat → Env → Env → Nat) (pre : Nat → List Int → List (List Int) → Prop) (post : List Int → List (List Int) → Prop) : Prop :=
 ∀ v0 : Int, ∀ l0 : List Int, allHas [⟨0, 1⟩] [v0] → allL [(⟨(-32768), 32767⟩, 1099511627776)] [l0] → ([v0], [l0]) = T.fns 22 [] [] →
 ((decide ((v0 : Int) = 1) = true →
  ∀ v1 : Int, ∀ l1 : List Int, allHas [⟨0, 1⟩] [v1] → allL [(⟨(-32768), 32767⟩, 1099511627776)] [l1] → ([v1], [l1]) = T.fns 23 [] [] →
  ((decide ((v1 : Int) = 1) = true →
   ∀ v2 : Int, [v2] = T.outL 17 1 [] [([] : List Int), ([] : List Int)] →
   (((!decide ((v2 : Int) = 1)) = true →
    post [0] []) ∧ ((!decide ((v2 : Int) = 1)) = false →
    ((pre 24 [1] [([] : List Int)]) ∧ ((pre 24 [1] [([] : List Int)]) →
    ∀ v3 : Int, ∀ l2 : List Int, allHas [⟨(-9223372036854775808), 9223372036854775807⟩] [v3] → allL [(⟨(-32768), 32767⟩, 46116860184273879035)] [l2] → ([v3], [l2]) = T.fns 24 [1] [([] : List Int)] →
    ((pre 25 [1] [([] : List Int)]) ∧ ((pre 25 [1] [([] : List Int)]) →
    ∀ v4 : Int, [v4] = T.outL 25 1 [1] [([] : List Int)] →
    ((decide ((v4 : Int) < 0) = true →
     post [0] []) ∧ (decide ((v4 : Int) < 0) = false →
     (((!decide ((v4 : Int) = v3)) = true →
      post [0] []) ∧ ((!decide ((v4 : Int) = v3)) = false →
      ∀ v5 : Int, ∀ l3 : List Int, allHas [⟨0, 1⟩] [v5] → allL [(⟨(-32768), 32767⟩, 1099511627776)] [l3] → ([v5], [l3]) = T.fns 23 [] [] →
      ((decide ((v5 : Int) = 1) = true →
       ∀ v6 : Int, [v6] = T.outL 17 1 [] [([] : List Int), ([] : List Int)] →
       (((!decide ((v6 : Int) = 1)) = true →
        post [0] []) ∧ ((!decide ((v6 : Int) = 1)) = false →
        ((pre 25 [1] [([] : List Int)]) ∧ ((pre 25 [1] [([] : List Int)]) →
        ∀ v7 : Int, [v7] = T.outL 25 1 [1] [([] : List Int)] →
        ((decide ((v7 : Int) < 0) = true →
         post [0] []) ∧ (decide ((v7 : Int) < 0) = false →
         (((!decide ((v7 : Int) = v3)) = true →
          post [0] []) ∧ ((!decide ((v7 : Int) = v3)) = false →
          post [1] []))))))))) ∧ (decide ((v5 : Int) = 1) = false →
       ∀ v6 : Int, [v6] = T.outL 17 1 [] [l3, ([] : List Int)] →
       (((!decide ((v6 : Int) = 1)) = true →
        post [0] []) ∧ ((!decide ((v6 : Int) = 1)) = false →
        ((pre 25 [1] [([] : List Int)]) ∧ ((pre 25 [1] [([] : List Int)]) →
        ∀ v7 : Int, [v7] = T.outL 25 1 [1] [([] : List Int)] →
        ((decide ((v7 : Int) < 0) = true →
         post [0] []) ∧ (decide ((v7 : Int) < 0) = false →
         (((!decide ((v7 : Int) = v3)) = true →
          post [0] []) ∧ ((!decide ((v7 : Int) = v3)) = false →
          post [1] []))))))))))))))))))))) ∧ (decide ((v1 : Int) = 1) = false →
   ∀ v2 : Int, [v2] = T.outL 17 1 [] [l1, ([] : List Int)] →
   (((!decide ((v2 : Int) = 1)) = true →
    post [0] []) ∧ ((!decide ((v2 : Int) = 1)) = false →
    ((pre 24 [1] [l1]) ∧ ((pre 24 [1] [l1]) →
    ∀ v3 : Int, ∀ l2 : List Int, allHas [⟨(-9223372036854775808), 9223372036854775807⟩] [v3] → allL [(⟨(-32768), 32767⟩, 46116860184273879035)] [l2] → ([v3], [l2]) = T.fns 24 [1] [l1] →
    ((pre 25 [1] [l2]) ∧ ((pre 25 [1] [l2]) →
    ∀ v4 : Int, [v4] = T.outL 25 1 [1] [l2] →
    ((decide ((v4 : Int) < 0) = true →
     post [0] []) ∧ (decide ((v4 : Int) < 0) = false →
     (((!decide ((v4 : Int) = v3)) = true →
      post [0] []) ∧ ((!decide ((v4 : Int) = v3)) = false →
      ∀ v5 : Int, ∀ l3 : List Int, allHas [⟨0, 1⟩] [v5] → allL [(⟨(-32768), 32767⟩, 1099511627776)] [l3] → ([v5], [l3]) = T.fns 23 [] [] →
      ((decide ((v5 : Int) = 1) = true →
       ∀ v6 : Int, [v6] = T.outL 17 1 [] [([] : List Int), ([] : List Int)] →
       (((!decide ((v6 : Int) = 1)) = true →
        post [0] []) ∧ ((!decide ((v6 : Int) = 1)) = false →
        ((pre 25 [1] [l2]) ∧ ((pre 25 [1] [l2]) →
        ∀ v7 : Int, [v7] = T.outL 25 1 [1] [l2] →
        ((decide ((v7 : Int) < 0) = true →
         post [0] []) ∧ (decide ((v7 : Int) < 0) = false →
         (((!decide ((v7 : Int) = v3)) = true →
          post [0] []) ∧ ((!decide ((v7 : Int) = v3)) = false →
          post [1] []))))))))) ∧ (decide ((v5 : Int) = 1) = false →
       ∀ v6 : Int, [v6] = T.outL 17 1 [] [l3, ([] : List Int)] →
       (((!decide ((v6 : Int) = 1)) = true →
        post [0] []) ∧ ((!decide ((v6 : Int) = 1)) = false →
        ((pre 25 [1] [l2]) ∧ ((pre 25 [1] [l2]) →
        ∀ v7 : Int, [v7] = T.outL 25 1 [1] [l2] →
        ((decide ((v7 : Int) < 0) = true →
         post [0] []) ∧ (decide ((v7 : Int) < 0) = false →
         (((!decide ((v7 : Int) = v3)) = true →
          post [0] []) ∧ ((!decide ((v7 : Int) = v3)) = false →
          post [1] []))))))))))))))))))))))) ∧ (decide ((v0 : Int) = 1) = false →
  ∀ v1 : Int, ∀ l1 : List Int, allHas [⟨0, 1⟩] [v1] → allL [(⟨(-32768), 32767⟩, 1099511627776)] [l1] → ([v1], [l1]) = T.fns 23 [] [] →
  ((decide ((v1 : Int) = 1) = true →
   ∀ v2 : Int, [v2] = T.outL 17 1 [] [([] : List Int), l0] →
   (((!decide ((v2 : Int) = 1)) = true →
    post [0] []) ∧ ((!decide ((v2 : Int) = 1)) = false →
    ((pre 24 [1] [([] : List Int)]) ∧ ((pre 24 [1] [([] : List Int)]) →
    ∀ v3 : Int, ∀ l2 : List Int, allHas [⟨(-9223372036854775808), 9223372036854775807⟩] [v3] → allL [(⟨(-32768), 32767⟩, 46116860184273879035)] [l2] → ([v3], [l2]) = T.fns 24 [1] [([] : List Int)] →
    ((pre 25 [1] [([] : List Int)]) ∧ ((pre 25 [1] [([] : List Int)]) →
    ∀ v4 : Int, [v4] = T.outL 25 1 [1] [([] : List Int)] →
    ((decide ((v4 : Int) < 0) = true →
     post [0] []) ∧ (decide ((v4 : Int) < 0) = false →
     (((!decide ((v4 : Int) = v3)) = true →
      post [0] []) ∧ ((!decide ((v4 : Int) = v3)) = false →
      ∀ v5 : Int, ∀ l3 : List Int, allHas [⟨0, 1⟩] [v5] → allL [(⟨(-32768), 32767⟩, 1099511627776)] [l3] → ([v5], [l3]) = T.fns 23 [] [] →
      ((decide ((v5 : Int) = 1) = true →
       ∀ v6 : Int, [v6] = T.outL 17 1 [] [([] : List Int), l0] →
       (((!decide ((v6 : Int) = 1)) = true →
        post [0] []) ∧ ((!decide ((v6 : Int) = 1)) = false →
        ((pre 25 [1] [([] : List Int)]) ∧ ((pre 25 [1] [([] : List Int)]) →
        ∀ v7 : Int, [v7] = T.outL 25 1 [1] [([] : List Int)] →
        ((decide ((v7 : Int) < 0) = true →
         post [0] []) ∧ (decide ((v7 : Int) < 0) = false →
         (((!decide ((v7 : Int) = v3)) = true →
          post [0] []) ∧ ((!decide ((v7 : Int) = v3)) = false →
          post [1] []))))))))) ∧ (decide ((v5 : Int) = 1) = false →
       ∀ v6 : Int, [v6] = T.outL 17 1 [] [l3, l0] →
       (((!decide ((v6 : Int) = 1)) = true →
        post [0] []) ∧ ((!decide ((v6 : Int) = 1)) = false →
        ((pre 25 [1] [([] : List Int)]) ∧ ((pre 25 [1] [([] : List Int)]) →
        ∀ v7 : Int, [v7] = T.outL 25 1 [1] [([] : List Int)] →
        ((decide ((v7 : Int) < 0) = true →
         post [0] []) ∧ (decide ((v7 : Int) < 0) = false →
         (((!decide ((v7 : Int) = v3)) = true →
          post [0] []) ∧ ((!decide ((v7 : Int) = v3)) = false →
          post [1] []))))))))))))))))))))) ∧ (decide ((v1 : Int) = 1) = false →
   ∀ v2 : Int, [v2] = T.outL 17 1 [] [l1, l0] →
   (((!decide ((v2 : Int) = 1)) = true →
    post [0] []) ∧ ((!decide ((v2 : Int) = 1)) = false →
    ((pre 24 [1] [l1]) ∧ ((pre 24 [1] [l1]) →
    ∀ v3 : Int, ∀ l2 : List Int, allHas [⟨(-9223372036854775808), 9223372036854775807⟩] [v3] → allL [(⟨(-32768), 32767⟩, 46116860184273879035)] [l2] → ([v3], [l2]) = T.fns 24 [1] [l1] →
    ((pre 25 [1] [l2]) ∧ ((pre 25 [1] [l2]) →
    ∀ v4 : Int, [v4] = T.outL 25 1 [1] [l2] →
    ((decide ((v4 : Int) < 0) = true →
     post [0] []) ∧ (decide ((v4 : Int) < 0) = false →
     (((!decide ((v4 : Int) = v3)) = true →
      post [0] []) ∧ ((!decide ((v4 : Int) = v3)) = false →
      ∀ v5 : Int, ∀ l3 : List Int, allHas [⟨0, 1⟩] [v5] → allL [(⟨(-32768), 32767⟩, 1099511627776)] [l3] → ([v5], [l3]) = T.fns 23 [] [] →
      ((decide ((v5 : Int) = 1) = true →
       ∀ v6 : Int, [v6] = T.outL 17 1 [] [([] : List Int), l0] →
       (((!decide ((v6 : Int) = 1)) = true →
        post [0] []) ∧ ((!decide ((v6 : Int) = 1)) = false →
        ((pre 25 [1] [l2]) ∧ ((pre 25 [1] [l2]) →
        ∀ v7 : Int, [v7] = T.outL 25 1 [1] [l2] →
        ((decide ((v7 : Int) < 0) = true →
         post [0] []) ∧ (decide ((v7 : Int) < 0) = false →
         (((!decide ((v7 : Int) = v3)) = true →
          post [0] []) ∧ ((!decide ((v7 : Int) = v3)) = false →
          post [1] []))))))))) ∧ (decide ((v5 : Int) = 1) = false →
       ∀ v6 : Int, [v6] = T.outL 17 1 [] [l3, l0] →
       (((!decide ((v6 : Int) = 1)) = true →
        post [0] []) ∧ ((!decide ((v6 : Int) = 1)) = false →
        ((pre 25 [1] [l2]) ∧ ((pre 25 [1] [l2]) →
        ∀ v7 : Int, [v7] = T.outL 25 1 [1] [l2] →
        ((decide ((v7 : Int) < 0) = true →
         post [0] []) ∧ (decide ((v7 : Int) < 0) = false →
         (((!decide ((v7 : Int) = v3)) = true →
          post [0] []) ∧ ((!decide ((v7 : Int) = v3)) = false →
          post [1] []))))))))))))))))))))))))
theorem q6 (T : Tab) (I : Nat → Env → Env → Prop) (M : Nat → Env → Env → Nat) (pre : Nat → List Int → List (List Int) → Prop) (post : List Int → List (List Int) → Prop) : t6.plain T (presG pre I M) post ⟨[], []⟩ = p6 T I M pre post  := by kernel_rfl
theorem k6 (T : Tab) (I : Nat → Env → Env → Prop) (M : Nat → Env → Env → Nat) (pre : Nat → List Int → List (List Int) → Prop) (hs : SubSig T c6.sigs) (ht : TotG pre c6.sigs) (hg : T.sig 6 = some s6) (hC : CtAll Try.prog T.fns (presQ pre) c6.sigs) (hk : CpAll Try.prog c6.cps) (hlf : LfAll Try.prog T.fns (presQ pre) c6.lfs) (hwf : WfAll Try.prog T.fns (presQ pre) c6.wfs) (hi : ∀ xs ls, allHas (parIvs s6.params) xs → pre 6 xs ls → allHas iv6 xs)
    (h : ∀ (_ : Unit), allHas iv6 [] → allL (parLvs s6.params) [] → pre 6 [] [] → p6 T I M pre (fun ys _ => ys = T.app 6 [] []) ) : CT Try.prog T.fns (presQ pre) 6 s6 :=
  T.ctg (hlf := hlf) (hwf := hwf) (F := ⟨c6, []⟩) (fuel := 250) vc6 Try.checked.mixed hs ht hg hC hk Try.func6 I M (fun xs ls h1 h2 h3 => ⟨hi xs ls h1 h3, h2⟩) fun xs ls hx hl hp => by
    match xs, ls, hx, hl, hp with
    | [], [], hx, hl, hp => rw [q6]; exact h () hx hl hp
/-- loop.example/g01242/laws.FnExactNegTree -/
def s7 : Sig := ⟨[], [(false, [.b])], true⟩
noncomputable def c7 : Cfg := ⟨Try.prog, [(17, s17), (25, s25)], [], [(26, s26), (27, s27)], [(24, s24)], [], []⟩
def iv7 : List Iv := []
def t7 : VC :=
 (.calll 26 .nil [⟨0, 1⟩] [(⟨(-32768), 32767⟩, 1099511627776)]
 (.ite (.eq (.var 0) (.lit 1))
  (.calll 27 .nil [⟨0, 1⟩] [(⟨(-32768), 32767⟩, 1099511627776)]
  (.ite (.eq (.var 1) (.lit 1))
   (.call 17 (.l (.lit []) (.l (.lit []) .nil)) 1
   (.ite (.not (.eq (.var 2) (.lit 1)))
    (.fin (.e (.lit 0) .nil))
    (.need [(.pre 24 (.l (.lit []) (.e (.lit 1) .nil)))]
    (.calll 24 (.l (.lit []) (.e (.lit 1) .nil)) [⟨(-9223372036854775808), 9223372036854775807⟩] [(⟨(-32768), 32767⟩, 46116860184273879035)]
    (.need [(.pre 25 (.l (.lit []) (.e (.lit 1) .nil)))]
    (.call 25 (.l (.lit []) (.e (.lit 1) .nil)) 1
    (.ite (.lt (.var 4) (.lit 0))
     (.fin (.e (.lit 0) .nil))
     (.ite (.not (.eq (.var 4) (.var 3)))
      (.fin (.e (.lit 0) .nil))
      (.calll 27 .nil [⟨0, 1⟩] [(⟨(-32768), 32767⟩, 1099511627776)]
      (.ite (.eq (.var 5) (.lit 1))
       (.call 17 (.l (.lit []) (.l (.lit []) .nil)) 1
       (.ite (.not (.eq (.var 6) (.lit 1)))
        (.fin (.e (.lit 0) .nil))
        (.need [(.pre 25 (.l (.lit []) (.e (.lit 1) .nil)))]
        (.call 25 (.l (.lit []) (.e (.lit 1) .nil)) 1
        (.ite (.lt (.var 7) (.lit 0))
         (.fin (.e (.lit 0) .nil))
         (.ite (.not (.eq (.var 7) (.var 3)))
          (.fin (.e (.lit 0) .nil))
          (.fin (.e (.lit 1) .nil))))))))
       (.call 17 (.l (.var 3) (.l (.lit []) .nil)) 1
       (.ite (.not (.eq (.var 6) (.lit 1)))
        (.fin (.e (.lit 0) .nil))
        (.need [(.pre 25 (.l (.lit []) (.e (.lit 1) .nil)))]
        (.call 25 (.l (.lit []) (.e (.lit 1) .nil)) 1
        (.ite (.lt (.var 7) (.lit 0))
         (.fin (.e (.lit 0) .nil))
         (.ite (.not (.eq (.var 7) (.var 3)))
          (.fin (.e (.lit 0) .nil))
          (.fin (.e (.lit 1) .nil))))))))))))))))))
   (.call 17 (.l (.var 1) (.l (.lit []) .nil)) 1
   (.ite (.not (.eq (.var 2) (.lit 1)))
    (.fin (.e (.lit 0) .nil))
    (.need [(.pre 24 (.l (.var 1) (.e (.lit 1) .nil)))]
    (.calll 24 (.l (.var 1) (.e (.lit 1) .nil)) [⟨(-9223372036854775808), 9223372036854775807⟩] [(⟨(-32768), 32767⟩, 46116860184273879035)]
    (.need [(.pre 25 (.l (.var 2) (.e (.lit 1) .nil)))]
    (.call 25 (.l (.var 2) (.e (.lit 1) .nil)) 1
    (.ite (.lt (.var 4) (.lit 0))
     (.fin (.e (.lit 0) .nil))
     (.ite (.not (.eq (.var 4) (.var 3)))
      (.fin (.e (.lit 0) .nil))
      (.calll 27 .nil [⟨0, 1⟩] [(⟨(-32768), 32767⟩, 1099511627776)]
      (.ite (.eq (.var 5) (.lit 1))
       (.call 17 (.l (.lit []) (.l (.lit []) .nil)) 1
       (.ite (.not (.eq (.var 6) (.lit 1)))
        (.fin (.e (.lit 0) .nil))
        (.need [(.pre 25 (.l (.var 2) (.e (.lit 1) .nil)))]
        (.call 25 (.l (.var 2) (.e (.lit 1) .nil)) 1
        (.ite (.lt (.var 7) (.lit 0))
         (.fin (.e (.lit 0) .nil))
         (.ite (.not (.eq (.var 7) (.var 3)))
          (.fin (.e (.lit 0) .nil))
          (.fin (.e (.lit 1) .nil))))))))
       (.call 17 (.l (.var 3) (.l (.lit []) .nil)) 1
       (.ite (.not (.eq (.var 6) (.lit 1)))
        (.fin (.e (.lit 0) .nil))
        (.need [(.pre 25 (.l (.var 2) (.e (.lit 1) .nil)))]
        (.call 25 (.l (.var 2) (.e (.lit 1) .nil)) 1
        (.ite (.lt (.var 7) (.lit 0))
         (.fin (.e (.lit 0) .nil))
         (.ite (.not (.eq (.var 7) (.var 3)))
          (.fin (.e (.lit 0) .nil))
          (.fin (.e (.lit 1) .nil))))))))))))))))))))
  (.calll 27 .nil [⟨0, 1⟩] [(⟨(-32768), 32767⟩, 1099511627776)]
  (.ite (.eq (.var 1) (.lit 1))
   (.call 17 (.l (.lit []) (.l (.var 0) .nil)) 1
   (.ite (.not (.eq (.var 2) (.lit 1)))
    (.fin (.e (.lit 0) .nil))
    (.need [(.pre 24 (.l (.lit []) (.e (.lit 1) .nil)))]
    (.calll 24 (.l (.lit []) (.e (.lit 1) .nil)) [⟨(-9223372036854775808), 9223372036854775807⟩] [(⟨(-32768), 32767⟩, 46116860184273879035)]
    (.need [(.pre 25 (.l (.lit []) (.e (.lit 1) .nil)))]
    (.call 25 (.l (.lit []) (.e (.lit 1) .nil)) 1
    (.ite (.lt (.var 4) (.lit 0))
     (.fin (.e (.lit 0) .nil))
     (.ite (.not (.eq (.var 4) (.var 3)))
      (.fin (.e (.lit 0) .nil))
      (.calll 27 .nil [⟨0, 1⟩] [(⟨(-32768), 32767⟩, 1099511627776)]
      (.ite (.eq (.var 5) (.lit 1))
       (.call 17 (.l (.lit []) (.l (.var 0) .nil)) 1
       (.ite (.not (.eq (.var 6) (.lit 1)))
        (.fin (.e (.lit 0) .nil))
        (.need [(.pre 25 (.l (.lit []) (.e (.lit 1) .nil)))]
        (.call 25 (.l (.lit []) (.e (.lit 1) .nil)) 1
        (.ite (.lt (.var 7) (.lit 0))
         (.fin (.e (.lit 0) .nil))
         (.ite (.not (.eq (.var 7) (.var 3)))
          (.fin (.e (.lit 0) .nil))
          (.fin (.e (.lit 1) .nil))))))))
       (.call 17 (.l (.var 3) (.l (.var 0) .nil)) 1
       (.ite (.not (.eq (.var 6) (.lit 1)))
        (.fin (.e (.lit 0) .nil))
        (.need [(.pre 25 (.l (.lit []) (.e (.lit 1) .nil)))]
        (.call 25 (.l (.lit []) (.e (.lit 1) .nil)) 1
        (.ite (.lt (.var 7) (.lit 0))
         (.fin (.e (.lit 0) .nil))
         (.ite (.not (.eq (.var 7) (.var 3)))
          (.fin (.e (.lit 0) .nil))
          (.fin (.e (.lit 1) .nil))))))))))))))))))
   (.call 17 (.l (.var 1) (.l (.var 0) .nil)) 1
   (.ite (.not (.eq (.var 2) (.lit 1)))
    (.fin (.e (.lit 0) .nil))
    (.need [(.pre 24 (.l (.var 1) (.e (.lit 1) .nil)))]
    (.calll 24 (.l (.var 1) (.e (.lit 1) .nil)) [⟨(-9223372036854775808), 9223372036854775807⟩] [(⟨(-32768), 32767⟩, 46116860184273879035)]
    (.need [(.pre 25 (.l (.var 2) (.e (.lit 1) .nil)))]
    (.call 25 (.l (.var 2) (.e (.lit 1) .nil)) 1
    (.ite (.lt (.var 4) (.lit 0))
     (.fin (.e (.lit 0) .nil))
     (.ite (.not (.eq (.var 4) (.var 3)))
      (.fin (.e (.lit 0) .nil))
      (.calll 27 .nil [⟨0, 1⟩] [(⟨(-32768), 32767⟩, 1099511627776)]
      (.ite (.eq (.var 5) (.lit 1))
       (.call 17 (.l (.lit []) (.l (.var 0) .nil)) 1
       (.ite (.not (.eq (.var 6) (.lit 1)))
        (.fin (.e (.lit 0) .nil))
        (.need [(.pre 25 (.l (.var 2) (.e (.lit 1) .nil)))]
        (.call 25 (.l (.var 2) (.e (.lit 1) .nil)) 1
        (.ite (.lt (.var 7) (.lit 0))
         (.fin (.e (.lit 0) .nil))
         (.ite (.not (.eq (.var 7) (.var 3)))
          (.fin (.e (.lit 0) .nil))
          (.fin (.e (.lit 1) .nil))))))))
       (.call 17 (.l (.var 3) (.l (.var 0) .nil)) 1
       (.ite (.not (.eq (.var 6) (.lit 1)))
        (.fin (.e (.lit 0) .nil))
        (.need [(.pre 25 (.l (.var 2) (.e (.lit 1) .nil)))]
        (.call 25 (.l (.var 2) (.e (.lit 1) .nil)) 1
        (.ite (.lt (.var 7) (.lit 0))
         (.fin (.e (.lit 0) .nil))
         (.ite (.not (.eq (.var 7) (.var 3)))
          (.fin (.e (.lit 0) .nil))
          (.fin (.e (.lit 1) .nil))))))))))))))))))))))
theorem vc7 : vcOfI ⟨c7, []⟩ iv7 (parLvs s7.params) 250 Try.f7 s7 = t7 := by kernel_rfl
set_option linter.unusedVariables false in
def p7 (T : Tab) (I : Nat → Env → Env → Prop) (M : Nat → Env → Env → Nat) (pre : Nat → List Int → List (List Int) → Prop) (post : List Int → List (List Int) → Prop) : Prop :=
 ∀ v0 : Int, ∀ l0 : List Int, allHas [⟨0, 1⟩] [v0] → allL [(⟨(-32768), 32767⟩, 1099511627776)] [l0] → ([v0], [l0]) = T.fns 26 [] [] →
 ((decide ((v0 : Int) = 1) = true →
  ∀ v1 : Int, ∀ l1 : List Int, allHas [⟨0, 1⟩] [v1] → allL [(⟨(-32768), 32767⟩, 1099511627776)] [l1] → ([v1], [l1]) = T.fns 27 [] [] →
  ((decide ((v1 : Int) = 1) = true →
   ∀ v2 : Int, [v2] = T.outL 17 1 [] [([] : List Int), ([] : List Int)] →
   (((!decide ((v2 : Int) = 1)) = true →
    post [0] []) ∧ ((!decide ((v2 : Int) = 1)) = false →
    ((pre 24 [1] [([] : List Int)]) ∧ ((pre 24 [1] [([] : List Int)]) →
    ∀ v3 : Int, ∀ l2 : List Int, allHas [⟨(-9223372036854775808), 9223372036854775807⟩] [v3] → allL [(⟨(-32768), 32767⟩, 46116860184273879035)] [l2] → ([v3], [l2]) = T.fns 24 [1] [([] : List Int)] →
    ((pre 25 [1] [([] : List Int)]) ∧ ((pre 25 [1] [([] : List Int)]) →
    ∀ v4 : Int, [v4] = T.outL 25 1 [1] [([] : List Int)] →
    ((decide ((v4 : Int) < 0) = true →
     post [0] []) ∧ (decide ((v4 : Int) < 0) = false →
     (((!decide ((v4 : Int) = v3)) = true →
      post [0] []) ∧ ((!decide ((v4 : Int) = v3)) = false →
      ∀ v5 : Int, ∀ l3 : List Int, allHas [⟨0, 1⟩] [v5] → allL [(⟨(-32768), 32767⟩, 1099511627776)] [l3] → ([v5], [l3]) = T.fns 27 [] [] →
      ((decide ((v5 : Int) = 1) = true →
       ∀ v6 : Int, [v6] = T.outL 17 1 [] [([] : List Int), ([] : List Int)] →
       (((!decide ((v6 : Int) = 1)) = true →
        post [0] []) ∧ ((!decide ((v6 : Int) = 1)) = false →
        ((pre 25 [1] [([] : List Int)]) ∧ ((pre 25 [1] [([] : List Int)]) →
        ∀ v7 : Int, [v7] = T.outL 25 1 [1] [([] : List Int)] →
        ((decide ((v7 : Int) < 0) = true →
         post [0] []) ∧ (decide ((v7 : Int) < 0) = false →
         (((!decide ((v7 : Int) = v3)) = true →
          post [0] []) ∧ ((!decide ((v7 : Int) = v3)) = false →
          post [1] []))))))))) ∧ (decide ((v5 : Int) = 1) = false →
       ∀ v6 : Int, [v6] = T.outL 17 1 [] [l3, ([] : List Int)] →
       (((!decide ((v6 : Int) = 1)) = true →
        post [0] []) ∧ ((!decide ((v6 : Int) = 1)) = false →
        ((pre 25 [1] [([] : List Int)]) ∧ ((pre 25 [1] [([] : List Int)]) →
        ∀ v7 : Int, [v7] = T.outL 25 1 [1] [([] : List Int)] →
        ((decide ((v7 : Int) < 0) = true →
         post [0] []) ∧ (decide ((v7 : Int) < 0) = false →
         (((!decide ((v7 : Int) = v3)) = true →
          post [0] []) ∧ ((!decide ((v7 : Int) = v3)) = false →
          post [1] []))))))))))))))))))))) ∧ (decide ((v1 : Int) = 1) = false →
   ∀ v2 : Int, [v2] = T.outL 17 1 [] [l1, ([] : List Int)] →
   (((!decide ((v2 : Int) = 1)) = true →
    post [0] []) ∧ ((!decide ((v2 : Int) = 1)) = false →
    ((pre 24 [1] [l1]) ∧ ((pre 24 [1] [l1]) →
    ∀ v3 : Int, ∀ l2 : List Int, allHas [⟨(-9223372036854775808), 9223372036854775807⟩] [v3] → allL [(⟨(-32768), 32767⟩, 46116860184273879035)] [l2] → ([v3], [l2]) = T.fns 24 [1] [l1] →
    ((pre 25 [1] [l2]) ∧ ((pre 25 [1] [l2]) →
    ∀ v4 : Int, [v4] = T.outL 25 1 [1] [l2] →
    ((decide ((v4 : Int) < 0) = true →
     post [0] []) ∧ (decide ((v4 : Int) < 0) = false →
     (((!decide ((v4 : Int) = v3)) = true →
      post [0] []) ∧ ((!decide ((v4 : Int) = v3)) = false →
      ∀ v5 : Int, ∀ l3 : List Int, allHas [⟨0, 1⟩] [v5] → allL [(⟨(-32768), 32767⟩, 1099511627776)] [l3] → ([v5], [l3]) = T.fns 27 [] [] →
      ((decide ((v5 : Int) = 1) = true →
       ∀ v6 : Int, [v6] = T.outL 17 1 [] [([] : List Int), ([] : List Int)] →
       (((!decide ((v6 : Int) = 1)) = true →
        post [0] []) ∧ ((!decide ((v6 : Int) = 1)) = false →
        ((pre 25 [1] [l2]) ∧ ((pre 25 [1] [l2]) →
        ∀ v7 : Int, [v7] = T.outL 25 1 [1] [l2] →
        ((decide ((v7 : Int) < 0) = true →
         post [0] []) ∧ (decide ((v7 : Int) < 0) = false →
         (((!decide ((v7 : Int) = v3)) = true →
          post [0] []) ∧ ((!decide ((v7 : Int) = v3)) = false →
          post [1] []))))))))) ∧ (decide ((v5 : Int) = 1) = false →
       ∀ v6 : Int, [v6] = T.outL 17 1 [] [l3, ([] : List Int)] →
       (((!decide ((v6 : Int) = 1)) = true →
        post [0] []) ∧ ((!decide ((v6 : Int) = 1)) = false →
        ((pre 25 [1] [l2]) ∧ ((pre 25 [1] [l2]) →
        ∀ v7 : Int, [v7] = T.outL 25 1 [1] [l2] →
        ((decide ((v7 : Int) < 0) = true →
         post [0] []) ∧ (decide ((v7 : Int) < 0) = false →
         (((!decide ((v7 : Int) = v3)) = true →
          post [0] []) ∧ ((!decide ((v7 : Int) = v3)) = false →
          post [1] []))))))))))))))))))))))) ∧ (decide ((v0 : Int) = 1) = false →
  ∀ v1 : Int, ∀ l1 : List Int, allHas [⟨0, 1⟩] [v1] → allL [(⟨(-32768), 32767⟩, 1099511627776)] [l1] → ([v1], [l1]) = T.fns 27 [] [] →
  ((decide ((v1 : Int) = 1) = true →
   ∀ v2 : Int, [v2] = T.outL 17 1 [] [([] : List Int), l0] →
   (((!decide ((v2 : Int) = 1)) = true →
    post [0] []) ∧ ((!decide ((v2 : Int) = 1)) = false →
    ((pre 24 [1] [([] : List Int)]) ∧ ((pre 24 [1] [([] : List Int)]) →
    ∀ v3 : Int, ∀ l2 : List Int, allHas [⟨(-9223372036854775808), 9223372036854775807⟩] [v3] → allL [(⟨(-32768), 32767⟩, 46116860184273879035)] [l2] → ([v3], [l2]) = T.fns 24 [1] [([] : List Int)] →
    ((pre 25 [1] [([] : List Int)]) ∧ ((pre 25 [1] [([] : List Int)]) →
    ∀ v4 : Int, [v4] = T.outL 25 1 [1] [([] : List Int)] →
    ((decide ((v4 : Int) < 0) = true →
     post [0] []) ∧ (decide ((v4 : Int) < 0) = false →
     (((!decide ((v4 : Int) = v3)) = true →
      post [0] []) ∧ ((!decide ((v4 : Int) = v3)) = false →
      ∀ v5 : Int, ∀ l3 : List Int, allHas [⟨0, 1⟩] [v5] → allL [(⟨(-32768), 32767⟩, 1099511627776)] [l3] → ([v5], [l3]) = T.fns 27 [] [] →
      ((decide ((v5 : Int) = 1) = true →
       ∀ v6 : Int, [v6] = T.outL 17 1 [] [([] : List Int), l0] →
       (((!decide ((v6 : Int) = 1)) = true →
        post [0] []) ∧ ((!decide ((v6 : Int) = 1)) = false →
        ((pre 25 [1] [([] : List Int)]) ∧ ((pre 25 [1] [([] : List Int)]) →
        ∀ v7 : Int, [v7] = T.outL 25 1 [1] [([] : List Int)] →
        ((decide ((v7 : Int) < 0) = true →
         post [0] []) ∧ (decide ((v7 : Int) < 0) = false →
         (((!decide ((v7 : Int) = v3)) = true →
          post [0] []) ∧ ((!decide ((v7 : Int) = v3)) = false →
          post [1] []))))))))) ∧ (decide ((v5 : Int) = 1) = false →
       ∀ v6 : Int, [v6] = T.outL 17 1 [] [l3, l0] →
       (((!decide ((v6 : Int) = 1)) = true →
        post [0] []) ∧ ((!decide ((v6 : Int) = 1)) = false →
        ((pre 25 [1] [([] : List Int)]) ∧ ((pre 25 [1] [([] : List Int)]) →
        ∀ v7 : Int, [v7] = T.outL 25 1 [1] [([] : List Int)] →
        ((decide ((v7 : Int) < 0) = true →
         post [0] []) ∧ (decide ((v7 : Int) < 0) = false →
         (((!decide ((v7 : Int) = v3)) = true →
          post [0] []) ∧ ((!decide ((v7 : Int) = v3)) = false →
          post [1] []))))))))))))))))))))) ∧ (decide ((v1 : Int) = 1) = false →
   ∀ v2 : Int, [v2] = T.outL 17 1 [] [l1, l0] →
   (((!decide ((v2 : Int) = 1)) = true →
    post [0] []) ∧ ((!decide ((v2 : Int) = 1)) = false →
    ((pre 24 [1] [l1]) ∧ ((pre 24 [1] [l1]) →
    ∀ v3 : Int, ∀ l2 : List Int, allHas [⟨(-9223372036854775808), 9223372036854775807⟩] [v3] → allL [(⟨(-32768), 32767⟩, 46116860184273879035)] [l2] → ([v3], [l2]) = T.fns 24 [1] [l1] →
    ((pre 25 [1] [l2]) ∧ ((pre 25 [1] [l2]) →
    ∀ v4 : Int, [v4] = T.outL 25 1 [1] [l2] →
    ((decide ((v4 : Int) < 0) = true →
     post [0] []) ∧ (decide ((v4 : Int) < 0) = false →
     (((!decide ((v4 : Int) = v3)) = true →
      post [0] []) ∧ ((!decide ((v4 : Int) = v3)) = false →
      ∀ v5 : Int, ∀ l3 : List Int, allHas [⟨0, 1⟩] [v5] → allL [(⟨(-32768), 32767⟩, 1099511627776)] [l3] → ([v5], [l3]) = T.fns 27 [] [] →
      ((decide ((v5 : Int) = 1) = true →
       ∀ v6 : Int, [v6] = T.outL 17 1 [] [([] : List Int), l0] →
       (((!decide ((v6 : Int) = 1)) = true →
        post [0] []) ∧ ((!decide ((v6 : Int) = 1)) = false →
        ((pre 25 [1] [l2]) ∧ ((pre 25 [1] [l2]) →
        ∀ v7 : Int, [v7] = T.outL 25 1 [1] [l2] →
        ((decide ((v7 : Int) < 0) = true →
         post [0] []) ∧ (decide ((v7 : Int) < 0) = false →
         (((!decide ((v7 : Int) = v3)) = true →
          post [0] []) ∧ ((!decide ((v7 : Int) = v3)) = false →
          post [1] []))))))))) ∧ (decide ((v5 : Int) = 1) = false →
       ∀ v6 : Int, [v6] = T.outL 17 1 [] [l3, l0] →
       (((!decide ((v6 : Int) = 1)) = true →
        post [0] []) ∧ ((!decide ((v6 : Int) = 1)) = false →
        ((pre 25 [1] [l2]) ∧ ((pre 25 [1] [l2]) →
        ∀ v7 : Int, [v7] = T.outL 25 1 [1] [l2] →
        ((decide ((v7 : Int) < 0) = true →
         post [0] []) ∧ (decide ((v7 : Int) < 0) = false →
         (((!decide ((v7 : Int) = v3)) = true →
          post [0] []) ∧ ((!decide ((v7 : Int) = v3)) = false →
          post [1] []))))))))))))))))))))))))
theorem q7 (T : Tab) (I : Nat → Env → Env → Prop) (M : Nat → Env → Env → Nat) (pre : Nat → List Int → List (List Int) → Prop) (post : List Int → List (List Int) → Prop) : t7.plain T (presG pre I M) post ⟨[], []⟩ = p7 T I M pre post  := by kernel_rfl
theorem k7 (T : Tab) (I : Nat → Env → Env → Prop) (M : Nat → Env → Env → Nat) (pre : Nat → List Int → List (List Int) → Prop) (hs : SubSig T c7.sigs) (ht : TotG pre c7.sigs) (hg : T.sig 7 = some s7) (hC : CtAll Try.prog T.fns (presQ pre) c7.sigs) (hk : CpAll Try.prog c7.cps) (hlf : LfAll Try.prog T.fns (presQ pre) c7.lfs) (hwf : WfAll Try.prog T.fns (presQ pre) c7.wfs) (hi : ∀ xs ls, allHas (parIvs s7.params) xs → pre 7 xs ls → allHas iv7 xs)
    (h : ∀ (_ : Unit), allHas iv7 [] → allL (parLvs s7.params) [] → pre 7 [] [] → p7 T I M pre (fun ys _ => ys = T.app 7 [] []) ) : CT Try.prog T.fns (presQ pre) 7 s7 :=
  T.ctg (hlf := hlf) (hwf := hwf) (F := ⟨c7, []⟩) (fuel := 250) vc7 Try.checked.mixed hs ht hg hC hk Try.func7 I M (fun xs ls h1 h2 h3 => ⟨hi xs ls h1 h3, h2⟩) fun xs ls hx hl hp => by
    match xs, ls, hx, hl, hp with
    | [], [], hx, hl, hp => rw [q7]; exact h () hx hl hp
/-- loop.example/g01242/laws.FnExactHalfTree -/
def s8 : Sig := ⟨[], [(false, [.b])], true⟩
noncomputable def c8 : Cfg := ⟨Try.prog, [(17, s17), (25, s25)], [], [(28, s28), (29, s29)], [(24, s24)], [], []⟩
def iv8 : List Iv := []
def t8 : VC :=
 (.calll 28 .nil [⟨0, 1⟩] [(⟨(-32768), 32767⟩, 1099511627776)]
 (.ite (.eq (.var 0) (.lit 1))
  (.calll 29 .nil [⟨0, 1⟩] [(⟨(-32768), 32767⟩, 1099511627776)]
  (.ite (.eq (.var 1) (.lit 1))
   (.call 17 (.l (.lit []) (.l (.lit []) .nil)) 1
   (.ite (.not (.eq (.var 2) (.lit 1)))
    (.fin (.e (.lit 0) .nil))
    (.need [(.pre 24 (.l (.lit []) (.e (.lit 1) .nil)))]
    (.calll 24 (.l (.lit []) (.e (.lit 1) .nil)) [⟨(-9223372036854775808), 9223372036854775807⟩] [(⟨(-32768), 32767⟩, 46116860184273879035)]
    (.need [(.pre 25 (.l (.lit []) (.e (.lit 1) .nil)))]
    (.call 25 (.l (.lit []) (.e (.lit 1) .nil)) 1
    (.ite (.lt (.var 4) (.lit 0))
     (.fin (.e (.lit 0) .nil))
     (.ite (.not (.eq (.var 4) (.var 3)))
      (.fin (.e (.lit 0) .nil))
      (.calll 29 .nil [⟨0, 1⟩] [(⟨(-32768), 32767⟩, 1099511627776)]
      (.ite (.eq (.var 5) (.lit 1))
       (.call 17 (.l (.lit []) (.l (.lit []) .nil)) 1
       (.ite (.not (.eq (.var 6) (.lit 1)))
        (.fin (.e (.lit 0) .nil))
        (.need [(.pre 25 (.l (.lit []) (.e (.lit 1) .nil)))]
        (.call 25 (.l (.lit []) (.e (.lit 1) .nil)) 1
        (.ite (.lt (.var 7) (.lit 0))
         (.fin (.e (.lit 0) .nil))
         (.ite (.not (.eq (.var 7) (.var 3)))
          (.fin (.e (.lit 0) .nil))
          (.fin (.e (.lit 1) .nil))))))))
       (.call 17 (.l (.var 3) (.l (.lit []) .nil)) 1
       (.ite (.not (.eq (.var 6) (.lit 1)))
        (.fin (.e (.lit 0) .nil))
        (.need [(.pre 25 (.l (.lit []) (.e (.lit 1) .nil)))]
        (.call 25 (.l (.lit []) (.e (.lit 1) .nil)) 1
        (.ite (.lt (.var 7) (.lit 0))
         (.fin (.e (.lit 0) .nil))
         (.ite (.not (.eq (.var 7) (.var 3)))
          (.fin (.e (.lit 0) .nil))
          (.fin (.e (.lit 1) .nil))))))))))))))))))
   (.call 17 (.l (.var 1) (.l (.lit []) .nil)) 1
   (.ite (.not (.eq (.var 2) (.lit 1)))
    (.fin (.e (.lit 0) .nil))
    (.need [(.pre 24 (.l (.var 1) (.e (.lit 1) .nil)))]
    (.calll 24 (.l (.var 1) (.e (.lit 1) .nil)) [⟨(-9223372036854775808), 9223372036854775807⟩] [(⟨(-32768), 32767⟩, 46116860184273879035)]
    (.need [(.pre 25 (.l (.var 2) (.e (.lit 1) .nil)))]
    (.call 25 (.l (.var 2) (.e (.lit 1) .nil)) 1
    (.ite (.lt (.var 4) (.lit 0))
     (.fin (.e (.lit 0) .nil))
     (.ite (.not (.eq (.var 4) (.var 3)))
      (.fin (.e (.lit 0) .nil))
      (.calll 29 .nil [⟨0, 1⟩] [(⟨(-32768), 32767⟩, 1099511627776)]
      (.ite (.eq (.var 5) (.lit 1))
       (.call 17 (.l (.lit []) (.l (.lit []) .nil)) 1
       (.ite (.not (.eq (.var 6) (.lit 1)))
        (.fin (.e (.lit 0) .nil))
        (.need [(.pre 25 (.l (.var 2) (.e (.lit 1) .nil)))]
        (.call 25 (.l (.var 2) (.e (.lit 1) .nil)) 1
        (.ite (.lt (.var 7) (.lit 0))
         (.fin (.e (.lit 0) .nil))
         (.ite (.not (.eq (.var 7) (.var 3)))
          (.fin (.e (.lit 0) .nil))
          (.fin (.e (.lit 1) .nil))))))))
       (.call 17 (.l (.var 3) (.l (.lit []) .nil)) 1
       (.ite (.not (.eq (.var 6) (.lit 1)))
        (.fin (.e (.lit 0) .nil))
        (.need [(.pre 25 (.l (.var 2) (.e (.lit 1) .nil)))]
        (.call 25 (.l (.var 2) (.e (.lit 1) .nil)) 1
        (.ite (.lt (.var 7) (.lit 0))
         (.fin (.e (.lit 0) .nil))
         (.ite (.not (.eq (.var 7) (.var 3)))
          (.fin (.e (.lit 0) .nil))
          (.fin (.e (.lit 1) .nil))))))))))))))))))))
  (.calll 29 .nil [⟨0, 1⟩] [(⟨(-32768), 32767⟩, 1099511627776)]
  (.ite (.eq (.var 1) (.lit 1))
   (.call 17 (.l (.lit []) (.l (.var 0) .nil)) 1
   (.ite (.not (.eq (.var 2) (.lit 1)))
    (.fin (.e (.lit 0) .nil))
    (.need [(.pre 24 (.l (.lit []) (.e (.lit 1) .nil)))]
    (.calll 24 (.l (.lit []) (.e (.lit 1) .nil)) [⟨(-9223372036854775808), 9223372036854775807⟩] [(⟨(-32768), 32767⟩, 46116860184273879035)]
    (.need [(.pre 25 (.l (.lit []) (.e (.lit 1) .nil)))]
    (.call 25 (.l (.lit []) (.e (.lit 1) .nil)) 1
    (.ite (.lt (.var 4) (.lit 0))
     (.fin (.e (.lit 0) .nil))
     (.ite (.not (.eq (.var 4) (.var 3)))
      (.fin (.e (.lit 0) .nil))
      (.calll 29 .nil [⟨0, 1⟩] [(⟨(-32768), 32767⟩, 1099511627776)]
      (.ite (.eq (.var 5) (.lit 1))
       (.call 17 (.l (.lit []) (.l (.var 0) .nil)) 1
       (.ite (.not (.eq (.var 6) (.lit 1)))
        (.fin (.e (.lit 0) .nil))
        (.need [(.pre 25 (.l (.lit []) (.e (.lit 1) .nil)))]
        (.call 25 (.l (.lit []) (.e (.lit 1) .nil)) 1
        (.ite (.lt (.var 7) (.lit 0))
         (.fin (.e (.lit 0) .nil))
         (.ite (.not (.eq (.var 7) (.var 3)))
          (.fin (.e (.lit 0) .nil))
          (.fin (.e (.lit 1) .nil))))))))
       (.call 17 (.l (.var 3) (.l (.var 0) .nil)) 1
       (.ite (.not (.eq (.var 6) (.lit 1)))
        (.fin (.e (.lit 0) .nil))
        (.need [(.pre 25 (.l (.lit []) (.e (.lit 1) .nil)))]
        (.call 25 (.l (.lit []) (.e (.lit 1) .nil)) 1
        (.ite (.lt (.var 7) (.lit 0))
         (.fin (.e (.lit 0) .nil))
         (.ite (.not (.eq (.var 7) (.var 3)))
          (.fin (.e (.lit 0) .nil))
          (.fin (.e (.lit 1) .nil))))))))))))))))))
   (.call 17 (.l (.var 1) (.l (.var 0) .nil)) 1
   (.ite (.not (.eq (.var 2) (.lit 1)))
    (.fin (.e (.lit 0) .nil))
    (.need [(.pre 24 (.l (.var 1) (.e (.lit 1) .nil)))]
    (.calll 24 (.l (.var 1) (.e (.lit 1) .nil)) [⟨(-9223372036854775808), 9223372036854775807⟩] [(⟨(-32768), 32767⟩, 46116860184273879035)]
    (.need [(.pre 25 (.l (.var 2) (.e (.lit 1) .nil)))]
    (.call 25 (.l (.var 2) (.e (.lit 1) .nil)) 1
    (.ite (.lt (.var 4) (.lit 0))
     (.fin (.e (.lit 0) .nil))
     (.ite (.not (.eq (.var 4) (.var 3)))
      (.fin (.e (.lit 0) .nil))
      (.calll 29 .nil [⟨0, 1⟩] [(⟨(-32768), 32767⟩, 1099511627776)]
      (.ite (.eq (.var 5) (.lit 1))
       (.call 17 (.l (.lit []) (.l (.var 0) .nil)) 1
       (.ite (.not (.eq (.var 6) (.lit 1)))
        (.fin (.e (.lit 0) .nil))
        (.need [(.pre 25 (.l (.var 2) (.e (.lit 1) .nil)))]
        (.call 25 (.l (.var 2) (.e (.lit 1) .nil)) 1
        (.ite (.lt (.var 7) (.lit 0))
         (.fin (.e (.lit 0) .nil))
         (.ite (.not (.eq (.var 7) (.var 3)))
          (.fin (.e (.lit 0) .nil))
          (.fin (.e (.lit 1) .nil))))))))
       (.call 17 (.l (.var 3) (.l (.var 0) .nil)) 1
       (.ite (.not (.eq (.var 6) (.lit 1)))
        (.fin (.e (.lit 0) .nil))
        (.need [(.pre 25 (.l (.var 2) (.e (.lit 1) .nil)))]
        (.call 25 (.l (.var 2) (.e (.lit 1) .nil)) 1
        (.ite (.lt (.var 7) (.lit 0))
         (.fin (.e (.lit 0) .nil))
         (.ite (.not (.eq (.var 7) (.var 3)))
          (.fin (.e (.lit 0) .nil))
          (.fin (.e (.lit 1) .nil))))))))))))))))))))))
theorem vc8 : vcOfI ⟨c8, []⟩ iv8 (parLvs s8.params) 250 Try.f8 s8 = t8 := by kernel_rfl
set_option linter.unusedVariables false in
def p8 (T : Tab) (I : Nat → Env → Env → Prop) (M : Nat → Env → Env → Nat) (pre : Nat → List Int → List (List Int) → Prop) (post : List Int → List (List Int) → Prop) : Prop :=
 ∀ v0 : Int, ∀ l0 : List Int, allHas [⟨0, 1⟩] [v0] → allL [(⟨(-32768), 32767⟩, 1099511627776)] [l0] → ([v0], [l0]) = T.fns 28 [] [] →
 ((decide ((v0 : Int) = 1) = true →
  ∀ v1 : Int, ∀ l1 : List Int, allHas [⟨0, 1⟩] [v1] → allL [(⟨(-32768), 32767⟩, 1099511627776)] [l1] → ([v1], [l1]) = T.fns 29 [] [] →
  ((decide ((v1 : Int) = 1) = true →
   ∀ v2 : Int, [v2] = T.outL 17 1 [] [([] : List Int), ([] : List Int)] →
   (((!decide ((v2 : Int) = 1)) = true →
    post [0] []) ∧ ((!decide ((v2 : Int) = 1)) = false →
    ((pre 24 [1] [([] : List Int)]) ∧ ((pre 24 [1] [([] : List Int)]) →
    ∀ v3 : Int, ∀ l2 : List Int, allHas [⟨(-9223372036854775808), 9223372036854775807⟩] [v3] → allL [(⟨(-32768), 32767⟩, 46116860184273879035)] [l2] → ([v3], [l2]) = T.fns 24 [1] [([] : List Int)] →
    ((pre 25 [1] [([] : List Int)]) ∧ ((pre 25 [1] [([] : List Int)]) →
    ∀ v4 : Int, [v4] = T.outL 25 1 [1] [([] : List Int)] →
    ((decide ((v4 : Int) < 0) = true →
     post [0] []) ∧ (decide ((v4 : Int) < 0) = false →
     (((!decide ((v4 : Int) = v3)) = true →
      post [0] []) ∧ ((!decide ((v4 : Int) = v3)) = false →
      ∀ v5 : Int, ∀ l3 : List Int, allHas [⟨0, 1⟩] [v5] → allL [(⟨(-32768), 32767⟩, 1099511627776)] [l3] → ([v5], [l3]) = T.fns 29 [] [] →
      ((decide ((v5 : Int) = 1) = true →
       ∀ v6 : Int, [v6] = T.outL 17 1 [] [([] : List Int), ([] : List Int)] →
       (((!decide ((v6 : Int) = 1)) = true →
        post [0] []) ∧ ((!decide ((v6 : Int) = 1)) = false →
        ((pre 25 [1] [([] : List Int)]) ∧ ((pre 25 [1] [([] : List Int)]) →
        ∀ v7 : Int, [v7] = T.outL 25 1 [1] [([] : List Int)] →
        ((decide ((v7 : Int) < 0) = true →
         post [0] []) ∧ (decide ((v7 : Int) < 0) = false →
         (((!decide ((v7 : Int) = v3)) = true →
          post [0] []) ∧ ((!decide ((v7 : Int) = v3)) = false →
          post [1] []))))))))) ∧ (decide ((v5 : Int) = 1) = false →
       ∀ v6 : Int, [v6] = T.outL 17 1 [] [l3, ([] : List Int)] →
       (((!decide ((v6 : Int) = 1)) = true →
        post [0] []) ∧ ((!decide ((v6 : Int) = 1)) = false →
        ((pre 25 [1] [([] : List Int)]) ∧ ((pre 25 [1] [([] : List Int)]) →
        ∀ v7 : Int, [v7] = T.outL 25 1 [1] [([] : List Int)] →
        ((decide ((v7 : Int) < 0) = true →
         post [0] []) ∧ (decide ((v7 : Int) < 0) = false →
         (((!decide ((v7 : Int) = v3)) = true →
          post [0] []) ∧ ((!decide ((v7 : Int) = v3)) = false →
          post [1] []))))))))))))))))))))) ∧ (decide ((v1 : Int) = 1) = false →
   ∀ v2 : Int, [v2] = T.outL 17 1 [] [l1, ([] : List Int)] →
   (((!decide ((v2 : Int) = 1)) = true →
    post [0] []) ∧ ((!decide ((v2 : Int) = 1)) = false →
    ((pre 24 [1] [l1]) ∧ ((pre 24 [1] [l1]) →
    ∀ v3 : Int, ∀ l2 : List Int, allHas [⟨(-9223372036854775808), 9223372036854775807⟩] [v3] → allL [(⟨(-32768), 32767⟩, 46116860184273879035)] [l2] → ([v3], [l2]) = T.fns 24 [1] [l1] →
    ((pre 25 [1] [l2]) ∧ ((pre 25 [1] [l2]) →
    ∀ v4 : Int, [v4] = T.outL 25 1 [1] [l2] →
    ((decide ((v4 : Int) < 0) = true →
     post [0] []) ∧ (decide ((v4 : Int) < 0) = false →
     (((!decide ((v4 : Int) = v3)) = true →
      post [0] []) ∧ ((!decide ((v4 : Int) = v3)) = false →
      ∀ v5 : Int, ∀ l3 : List Int, allHas [⟨0, 1⟩] [v5] → allL [(⟨(-32768), 32767⟩, 1099511627776)] [l3] → ([v5], [l3]) = T.fns 29 [] [] →
      ((decide ((v5 : Int) = 1) = true →
       ∀ v6 : Int, [v6] = T.outL 17 1 [] [([] : List Int), ([] : List Int)] →
       (((!decide ((v6 : Int) = 1)) = true →
        post [0] []) ∧ ((!decide ((v6 : Int) = 1)) = false →
        ((pre 25 [1] [l2]) ∧ ((pre 25 [1] [l2]) →
        ∀ v7 : Int, [v7] = T.outL 25 1 [1] [l2] →
        ((decide ((v7 : Int) < 0) = true →
         post [0] []) ∧ (decide ((v7 : Int) < 0) = false →
         (((!decide ((v7 : Int) = v3)) = true →
          post [0] []) ∧ ((!decide ((v7 : Int) = v3)) = false →
          post [1] []))))))))) ∧ (decide ((v5 : Int) = 1) = false →
       ∀ v6 : Int, [v6] = T.outL 17 1 [] [l3, ([] : List Int)] →
       (((!decide ((v6 : Int) = 1)) = true →
        post [0] []) ∧ ((!decide ((v6 : Int) = 1)) = false →
        ((pre 25 [1] [l2]) ∧ ((pre 25 [1] [l2]) →
        ∀ v7 : Int, [v7] = T.outL 25 1 [1] [l2] →
        ((decide ((v7 : Int) < 0) = true →
         post [0] []) ∧ (decide ((v7 : Int) < 0) = false →
         (((!decide ((v7 : Int) = v3)) = true →
          post [0] []) ∧ ((!decide ((v7 : Int) = v3)) = false →
          post [1] []))))))))))))))))))))))) ∧ (decide ((v0 : Int) = 1) = false →
  ∀ v1 : Int, ∀ l1 : List Int, allHas [⟨0, 1⟩] [v1] → allL [(⟨(-32768), 32767⟩, 1099511627776)] [l1] → ([v1], [l1]) = T.fns 29 [] [] →
  ((decide ((v1 : Int) = 1) = true →
   ∀ v2 : Int, [v2] = T.outL 17 1 [] [([] : List Int), l0] →
   (((!decide ((v2 : Int) = 1)) = true →
    post [0] []) ∧ ((!decide ((v2 : Int) = 1)) = false →
    ((pre 24 [1] [([] : List Int)]) ∧ ((pre 24 [1] [([] : List Int)]) →
    ∀ v3 : Int, ∀ l2 : List Int, allHas [⟨(-9223372036854775808), 9223372036854775807⟩] [v3] → allL [(⟨(-32768), 32767⟩, 46116860184273879035)] [l2] → ([v3], [l2]) = T.fns 24 [1] [([] : List Int)] →
    ((pre 25 [1] [([] : List Int)]) ∧ ((pre 25 [1] [([] : List Int)]) →
    ∀ v4 : Int, [v4] = T.outL 25 1 [1] [([] : List Int)] →
    ((decide ((v4 : Int) < 0) = true →
     post [0] []) ∧ (decide ((v4 : Int) < 0) = false →
     (((!decide ((v4 : Int) = v3)) = true →
      post [0] []) ∧ ((!decide ((v4 : Int) = v3)) = false →
      ∀ v5 : Int, ∀ l3 : List Int, allHas [⟨0, 1⟩] [v5] → allL [(⟨(-32768), 32767⟩, 1099511627776)] [l3] → ([v5], [l3]) = T.fns 29 [] [] →
      ((decide ((v5 : Int) = 1) = true →
       ∀ v6 : Int, [v6] = T.outL 17 1 [] [([] : List Int), l0] →
       (((!decide ((v6 : Int) = 1)) = true →
        post [0] []) ∧ ((!decide ((v6 : Int) = 1)) = false →
        ((pre 25 [1] [([] : List Int)]) ∧ ((pre 25 [1] [([] : List Int)]) →
        ∀ v7 : Int, [v7] = T.outL 25 1 [1] [([] : List Int)] →
        ((decide ((v7 : Int) < 0) = true →
         post [0] []) ∧ (decide ((v7 : Int) < 0) = false →
         (((!decide ((v7 : Int) = v3)) = true →
          post [0] []) ∧ ((!decide ((v7 : Int) = v3)) = false →
          post [1] []))))))))) ∧ (decide ((v5 : Int) = 1) = false →
       ∀ v6 : Int, [v6] = T.outL 17 1 [] [l3, l0] →
       (((!decide ((v6 : Int) = 1)) = true →
        post [0] []) ∧ ((!decide ((v6 : Int) = 1)) = false →
        ((pre 25 [1] [([] : List Int)]) ∧ ((pre 25 [1] [([] : List Int)]) →
        ∀ v7 : Int, [v7] = T.outL 25 1 [1] [([] : List Int)] →
        ((decide ((v7 : Int) < 0) = true →
         post [0] []) ∧ (decide ((v7 : Int) < 0) = false →
         (((!decide ((v7 : Int) = v3)) = true →
          post [0] []) ∧ ((!decide ((v7 : Int) = v3)) = false →
          post [1] []))))))))))))))))))))) ∧ (decide ((v1 : Int) = 1) = false →
   ∀ v2 : Int, [v2] = T.outL 17 1 [] [l1, l0] →
   (((!decide ((v2 : Int) = 1)) = true →
    post [0] []) ∧ ((!decide ((v2 : Int) = 1)) = false →
    ((pre 24 [1] [l1]) ∧ ((pre 24 [1] [l1]) →
    ∀ v3 : Int, ∀ l2 : List Int, allHas [⟨(-9223372036854775808), 9223372036854775807⟩] [v3] → allL [(⟨(-32768), 32767⟩, 46116860184273879035)] [l2] → ([v3], [l2]) = T.fns 24 [1] [l1] →
    ((pre 25 [1] [l2]) ∧ ((pre 25 [1] [l2]) →
    ∀ v4 : Int, [v4] = T.outL 25 1 [1] [l2] →
    ((decide ((v4 : Int) < 0) = true →
     post [0] []) ∧ (decide ((v4 : Int) < 0) = false →
     (((!decide ((v4 : Int) = v3)) = true →
      post [0] []) ∧ ((!decide ((v4 : Int) = v3)) = false →
      ∀ v5 : Int, ∀ l3 : List Int, allHas [⟨0, 1⟩] [v5] → allL [(⟨(-32768), 32767⟩, 1099511627776)] [l3] → ([v5], [l3]) = T.fns 29 [] [] →
      ((decide ((v5 : Int) = 1) = true →
       ∀ v6 : Int, [v6] = T.outL 17 1 [] [([] : List Int), l0] →
       (((!decide ((v6 : Int) = 1)) = true →
        post [0] []) ∧ ((!decide ((v6 : Int) = 1)) = false →
        ((pre 25 [1] [l2]) ∧ ((pre 25 [1] [l2]) →
        ∀ v7 : Int, [v7] = T.outL 25 1 [1] [l2] →
        ((decide ((v7 : Int) < 0) = true →
         post [0] []) ∧ (decide ((v7 : Int) < 0) = false →
         (((!decide ((v7 : Int) = v3)) = true →
          post [0] []) ∧ ((!decide ((v7 : Int) = v3)) = false →
          post [1] []))))))))) ∧ (decide ((v5 : Int) = 1) = false →
       ∀ v6 : Int, [v6] = T.outL 17 1 [] [l3, l0] →
       (((!decide ((v6 : Int) = 1)) = true →
        post [0] []) ∧ ((!decide ((v6 : Int) = 1)) = false →
        ((pre 25 [1] [l2]) ∧ ((pre 25 [1] [l2]) →
        ∀ v7 : Int, [v7] = T.outL 25 1 [1] [l2] →
        ((decide ((v7 : Int) < 0) = true →
         post [0] []) ∧ (decide ((v7 : Int) < 0) = false →
         (((!decide ((v7 : Int) = v3)) = true →
          post [0] []) ∧ ((!decide ((v7 : Int) = v3)) = false →
          post [1] []))))))))))))))))))))))))
theorem q8 (T : Tab) (I : Nat → Env → Env → Prop) (M : Nat → Env → Env → Nat) (pre : Nat → List Int → List (List Int) → Prop) (post : List Int → List (List Int) → Prop) : t8.plain T (presG pre I M) post ⟨[], []⟩ = p8 T I M pre post  := by kernel_rfl
theorem k8 (T : Tab) (I : Nat → Env → Env → Prop) (M : Nat → Env → Env → Nat) (pre : Nat → List Int → List (List Int) → Prop) (hs : SubSig T c8.sigs) (ht : TotG pre c8.sigs) (hg : T.sig 8 = some s8) (hC : CtAll Try.prog T.fns (presQ pre) c8.sigs) (hk : CpAll Try.prog c8.cps) (hlf : LfAll Try.prog T.fns (presQ pre) c8.lfs) (hwf : WfAll Try.prog T.fns (presQ pre) c8.wfs) (hi : ∀ xs ls, allHas (parIvs s8.params) xs → pre 8 xs ls → allHas iv8 xs)
    (h : ∀ (_ : Unit), allHas iv8 [] → allL (parLvs s8.params) [] → pre 8 [] [] → p8 T I M pre (fun ys _ => ys = T.app 8 [] []) ) : CT Try.prog T.fns (presQ pre) 8 s8 :=
  T.ctg (hlf := hlf) (hwf := hwf) (F := ⟨c8, []⟩) (fuel := 250) vc8 Try.checked.mixed hs ht hg hC hk Try.func8 I M (fun xs ls h1 h2 h3 => ⟨hi xs ls h1 h3, h2⟩) fun xs ls hx hl hp => by
    match xs, ls, hx, hl, hp with
    | [], [], hx, hl, hp => rw [q8]; exact h () hx hl hp
end Go.Proofs.Ytickjfclmoecpaa.Sx
