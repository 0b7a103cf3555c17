import Derived.Test.YtjpcmjgogdemoaaSxY
import Derived.Test.YtjpcmjgogdemoaaA1
import Derived.Test.YtjpcmjgogdemoaaB1
import Derived.Test.YtjpcmjgogdemoaaChecked
import Derived.KernelRfl
namespace Go.Proofs.Ytjpcmjgogdemoaa.Sx
open Go Go.RowKit
/-- loop.example/g01242/laws.eqInt8S -/
def s21 : Sig := ⟨[.lst [.i8], .lst [.i8]], [(false, [.b])], true⟩
noncomputable def c21 : Cfg := ⟨Try.prog, [], [], [], []⟩
def iv21 : List Iv := []
def t21 : VC :=
 (.ite (.not (.eq (.len (.var 0)) (.len (.var 1))))
  (.fin (.e (.lit 0) .nil))
  (.loop 1 [(.lit 0)] [] [⟨(-9223372036854775808), 9223372036854775807⟩] []
   (.ite (.lt (.var 0) (.len (.var 0)))
    (.need [(.b (.le (.lit 0) (.var 0))), (.b (.lt (.var 0) (.len (.var 0)))), (.b (.lt (.add (.lit 0) (.var 0)) (.len (.var 0)))), (.b (.le (.lit 0) (.var 0))), (.b (.lt (.var 0) (.len (.var 1)))), (.b (.lt (.add (.lit 0) (.var 0)) (.len (.var 1))))]
    (.bind (.at (.var 0) (.add (.lit 0) (.var 0)))
    (.bind (.at (.var 1) (.add (.lit 0) (.var 0)))
    (.ite (.not (.eq (.at (.var 0) (.add (.lit 0) (.var 0))) (.at (.var 1) (.add (.lit 0) (.var 0)))))
     (.fin (.e (.lit 0) .nil))
     (.bind (.wrap .i64 (.add (.var 0) (.lit 1)))
     (.again 1 0 2 [⟨(-9223372036854775808), 9223372036854775807⟩] [(.var 3)] []))))))
    (.fin (.e (.lit 1) .nil)))))
theorem vc21 : vcOfI ⟨c21, [(4, ⟨1, [5], [], [11, 12, 13, 14, 17, 18, 19, 20, 21, 22, 23, 24, 25, 4, 15, 16], [⟨(-9223372036854775808), 9223372036854775807⟩], [], []⟩)]⟩ iv21 (parLvs s21.params) 250 Try.f21 s21 = t21 := by kernel_rfl
set_option linter.unusedVariables false in
def p21 (T : Tab) (I : Nat → Env → Env → Prop) (M : Nat → Env → Env → Nat) (pre : Nat → List Int → List (List Int) → Prop) (post : List Int → List (List Int) → Prop) (l0 l1 : List Int) : Prop :=
 (((!decide (((List.length l0 : Int) : Int) = (List.length l1 : Int))) = true →
  post [0] []) ∧ ((!decide (((List.length l0 : Int) : Int) = (List.length l1 : Int))) = false →
  ((allHas [⟨(-9223372036854775808), 9223372036854775807⟩] [0] ∧ I 1 ⟨[], [l0, l1]⟩ ⟨[0], []⟩) ∧ ∀ v0 : Int, allHas [⟨(-9223372036854775808), 9223372036854775807⟩] [v0] → I 1 ⟨[], [l0, l1]⟩ ⟨[v0], []⟩ →
   ((decide ((v0 : Int) < (List.length l0 : Int)) = true →
    ((decide ((0 : Int) ≤ v0) = true ∧ decide ((v0 : Int) < (List.length l0 : Int)) = true ∧ decide (((0 + v0) : Int) < (List.length l0 : Int)) = true ∧ decide ((0 : Int) ≤ v0) = true ∧ decide ((v0 : Int) < (List.length l1 : Int)) = true ∧ decide (((0 + v0) : Int) < (List.length l1 : Int)) = true) ∧ ((decide ((0 : Int) ≤ v0) = true ∧ decide ((v0 : Int) < (List.length l0 : Int)) = true ∧ decide (((0 + v0) : Int) < (List.length l0 : Int)) = true ∧ decide ((0 : Int) ≤ v0) = true ∧ decide ((v0 : Int) < (List.length l1 : Int)) = true ∧ decide (((0 + v0) : Int) < (List.length l1 : Int)) = true) →
    ∀ v1 : Int, v1 = (List.getD l0 (Int.toNat (0 + v0)) 0) →
    ∀ v2 : Int, v2 = (List.getD l1 (Int.toNat (0 + v0)) 0) →
    (((!decide (((List.getD l0 (Int.toNat (0 + v0)) 0) : Int) = (List.getD l1 (Int.toNat (0 + v0)) 0))) = true →
     post [0] []) ∧ ((!decide (((List.getD l0 (Int.toNat (0 + v0)) 0) : Int) = (List.getD l1 (Int.toNat (0 + v0)) 0))) = false →
     ∀ v3 : Int, v3 = (IntKind.wrap .i64 (v0 + 1)) →
     (allHas [⟨(-9223372036854775808), 9223372036854775807⟩] [v3] ∧ I 1 ⟨[], [l0, l1]⟩ ⟨[v3], []⟩ ∧ M 1 ⟨[], [l0, l1]⟩ ⟨[v3], []⟩ < M 1 ⟨[], [l0, l1]⟩ ⟨[v0], []⟩)))))) ∧ (decide ((v0 : Int) < (List.length l0 : Int)) = false →
    post [1] [])))))
theorem q21 (T : Tab) (I : Nat → Env → Env → Prop) (M : Nat → Env → Env → Nat) (pre : Nat → List Int → List (List Int) → Prop) (post : List Int → List (List Int) → Prop) (l0 l1 : List Int) : t21.plain T (presG pre I M) post ⟨[], [l0, l1]⟩ = p21 T I M pre post l0 l1 := by kernel_rfl
theorem k21 (T : Tab) (I : Nat → Env → Env → Prop) (M : Nat → Env → Env → Nat) (pre : Nat → List Int → List (List Int) → Prop) (hs : SubSig T c21.sigs) (ht : TotG pre c21.sigs) (hg : T.sig 21 = some s21) (hC : CtAll Try.prog T.fns (presQ pre) c21.sigs) (hk : CpAll Try.prog c21.cps) (hi : ∀ xs ls, allHas (parIvs s21.params) xs → pre 21 xs ls → allHas iv21 xs)
    (h : ∀ (l0 l1 : List Int), allHas iv21 [] → allL (parLvs s21.params) [l0, l1] → pre 21 [] [l0, l1] → p21 T I M pre (fun ys _ => ys = T.app 21 [] [l0, l1]) l0 l1) : CT Try.prog T.fns (presQ pre) 21 s21 :=
  T.ctg (F := ⟨c21, [(4, ⟨1, [5], [], [11, 12, 13, 14, 17, 18, 19, 20, 21, 22, 23, 24, 25, 4, 15, 16], [⟨(-9223372036854775808), 9223372036854775807⟩], [], []⟩)]⟩) (fuel := 250) vc21 Try.checked.mixed hs ht hg hC hk Try.func21 I M (fun xs ls h1 h2 h3 => ⟨hi xs ls h1 h3, h2⟩) fun xs ls hx hl hp => by
    match xs, ls, hx, hl, hp with
    | [], [l0, l1], hx, hl, hp => rw [q21]; exact h l0 l1 hx hl hp
/-- loop.example/g01242/laws.eqInt64S -/
def s32 : Sig := ⟨[.lst [.i64], .lst [.i64]], [(false, [.b])], true⟩
noncomputable def c32 : Cfg := ⟨Try.prog, [], [], [], []⟩
def iv32 : List Iv := []
def t32 : VC :=
 (.ite (.not (.eq (.len (.var 0)) (.len (.var 1))))
  (.fin (.e (.lit 0) .nil))
  (.loop 1 [(.lit 0)] [] [⟨(-9223372036854775808), 9223372036854775807⟩] []
   (.ite (.lt (.var 0) (.len (.var 0)))
    (.need [(.b (.le (.lit 0) (.var 0))), (.b (.lt (.var 0) (.len (.var 0)))), (.b (.lt (.add (.lit 0) (.var 0)) (.len (.var 0)))), (.b (.le (.lit 0) (.var 0))), (.b (.lt (.var 0) (.len (.var 1)))), (.b (.lt (.add (.lit 0) (.var 0)) (.len (.var 1))))]
    (.bind (.at (.var 0) (.add (.lit 0) (.var 0)))
    (.bind (.at (.var 1) (.add (.lit 0) (.var 0)))
    (.ite (.not (.eq (.at (.var 0) (.add (.lit 0) (.var 0))) (.at (.var 1) (.add (.lit 0) (.var 0)))))
     (.fin (.e (.lit 0) .nil))
     (.bind (.wrap .i64 (.add (.var 0) (.lit 1)))
     (.again 1 0 2 [⟨(-9223372036854775808), 9223372036854775807⟩] [(.var 3)] []))))))
    (.fin (.e (.lit 1) .nil)))))
theorem vc32 : vcOfI ⟨c32, [(4, ⟨1, [5], [], [11, 12, 13, 14, 17, 18, 19, 20, 21, 22, 23, 24, 25, 4, 15, 16], [⟨(-9223372036854775808), 9223372036854775807⟩], [], []⟩)]⟩ iv32 (parLvs s32.params) 250 Try.f32 s32 = t32 := by kernel_rfl
set_option linter.unusedVariables false in
def p32 (T : Tab) (I : Nat → Env → Env → Prop) (M : Nat → Env → Env → Nat) (pre : Nat → List Int → List (List Int) → Prop) (post : List Int → List (List Int) → Prop) (l0 l1 : List Int) : Prop :=
 (((!decide (((List.length l0 : Int) : Int) = (List.length l1 : Int))) = true →
  post [0] []) ∧ ((!decide (((List.length l0 : Int) : Int) = (List.length l1 : Int))) = false →
  ((allHas [⟨(-9223372036854775808), 9223372036854775807⟩] [0] ∧ I 1 ⟨[], [l0, l1]⟩ ⟨[0], []⟩) ∧ ∀ v0 : Int, allHas [⟨(-9223372036854775808), 9223372036854775807⟩] [v0] → I 1 ⟨[], [l0, l1]⟩ ⟨[v0], []⟩ →
   ((decide ((v0 : Int) < (List.length l0 : Int)) = true →
    ((decide ((0 : Int) ≤ v0) = true ∧ decide ((v0 : Int) < (List.length l0 : Int)) = true ∧ decide (((0 + v0) : Int) < (List.length l0 : Int)) = true ∧ decide ((0 : Int) ≤ v0) = true ∧ decide ((v0 : Int) < (List.length l1 : Int)) = true ∧ decide (((0 + v0) : Int) < (List.length l1 : Int)) = true) ∧ ((decide ((0 : Int) ≤ v0) = true ∧ decide ((v0 : Int) < (List.length l0 : Int)) = true ∧ decide (((0 + v0) : Int) < (List.length l0 : Int)) = true ∧ decide ((0 : Int) ≤ v0) = true ∧ decide ((v0 : Int) < (List.length l1 : Int)) = true ∧ decide (((0 + v0) : Int) < (List.length l1 : Int)) = true) →
    ∀ v1 : Int, v1 = (List.getD l0 (Int.toNat (0 + v0)) 0) →
    ∀ v2 : Int, v2 = (List.getD l1 (Int.toNat (0 + v0)) 0) →
    (((!decide (((List.getD l0 (Int.toNat (0 + v0)) 0) : Int) = (List.getD l1 (Int.toNat (0 + v0)) 0))) = true →
     post [0] []) ∧ ((!decide (((List.getD l0 (Int.toNat (0 + v0)) 0) : Int) = (List.getD l1 (Int.toNat (0 + v0)) 0))) = false →
     ∀ v3 : Int, v3 = (IntKind.wrap .i64 (v0 + 1)) →
     (allHas [⟨(-9223372036854775808), 9223372036854775807⟩] [v3] ∧ I 1 ⟨[], [l0, l1]⟩ ⟨[v3], []⟩ ∧ M 1 ⟨[], [l0, l1]⟩ ⟨[v3], []⟩ < M 1 ⟨[], [l0, l1]⟩ ⟨[v0], []⟩)))))) ∧ (decide ((v0 : Int) < (List.length l0 : Int)) = false →
    post [1] [])))))
theorem q32 (T : Tab) (I : Nat → Env → Env → Prop) (M : Nat → Env → Env → Nat) (pre : Nat → List Int → List (List Int) → Prop) (post : List Int → List (List Int) → Prop) (l0 l1 : List Int) : t32.plain T (presG pre I M) post ⟨[], [l0, l1]⟩ = p32 T I M pre post l0 l1 := by kernel_rfl
theorem k32 (T : Tab) (I : Nat → Env → Env → Prop) (M : Nat → Env → Env → Nat) (pre : Nat → List Int → List (List Int) → Prop) (hs : SubSig T c32.sigs) (ht : TotG pre c32.sigs) (hg : T.sig 32 = some s32) (hC : CtAll Try.prog T.fns (presQ pre) c32.sigs) (hk : CpAll Try.prog c32.cps) (hi : ∀ xs ls, allHas (parIvs s32.params) xs → pre 32 xs ls → allHas iv32 xs)
    (h : ∀ (l0 l1 : List Int), allHas iv32 [] → allL (parLvs s32.params) [l0, l1] → pre 32 [] [l0, l1] → p32 T I M pre (fun ys _ => ys = T.app 32 [] [l0, l1]) l0 l1) : CT Try.prog T.fns (presQ pre) 32 s32 :=
  T.ctg (F := ⟨c32, [(4, ⟨1, [5], [], [11, 12, 13, 14, 17, 18, 19, 20, 21, 22, 23, 24, 25, 4, 15, 16], [⟨(-9223372036854775808), 9223372036854775807⟩], [], []⟩)]⟩) (fuel := 250) vc32 Try.checked.mixed hs ht hg hC hk Try.func32 I M (fun xs ls h1 h2 h3 => ⟨hi xs ls h1 h3, h2⟩) fun xs ls hx hl hp => by
    match xs, ls, hx, hl, hp with
    | [], [l0, l1], hx, hl, hp => rw [q32]; exact h l0 l1 hx hl hp
/-- loop.example/g01242/laws.szInt8S -/
def s68 : Sig := ⟨[.lst [.i8], .val false [.i .i64]], [(false, [.i .i64])], true⟩
noncomputable def c68 : Cfg := ⟨Try.prog, [], [], [], []⟩
def iv68 : List Iv := [⟨(-9223372036854775808), 9223372036854775807⟩]
def t68 : VC :=
 (.bind (.wrap .i64 (.sub (.var 0) (.len (.var 0))))
 (.ite (.lt (.var 1) (.lit 0))
  (.fin (.e (.lit (-1)) .nil))
  (.fin (.e (.var 1) .nil))))
theorem vc68 : vcOfI ⟨c68, []⟩ iv68 (parLvs s68.params) 250 Try.f68 s68 = t68 := by kernel_rfl
set_option linter.unusedVariables false in
def p68 (T : Tab) (I : Nat → Env → Env → Prop) (M : Nat → Env → Env → Nat) (pre : Nat → List Int → List (List Int) → Prop) (post : List Int → List (List Int) → Prop) (v0 : Int) (l0 : List Int) : Prop :=
 ∀ v1 : Int, v1 = (IntKind.wrap .i64 (v0 - (List.length l0 : Int))) →
 ((decide ((v1 : Int) < 0) = true →
  post [(-1)] []) ∧ (decide ((v1 : Int) < 0) = false →
  post [v1] []))
theorem q68 (T : Tab) (I : Nat → Env → Env → Prop) (M : Nat → Env → Env → Nat) (pre : Nat → List Int → List (List Int) → Prop) (post : List Int → List (List Int) → Prop) (v0 : Int) (l0 : List Int) : t68.plain T (presG pre I M) post ⟨[v0], [l0]⟩ = p68 T I M pre post v0 l0 := by kernel_rfl
theorem k68 (T : Tab) (I : Nat → Env → Env → Prop) (M : Nat → Env → Env → Nat) (pre : Nat → List Int → List (List Int) → Prop) (hs : SubSig T c68.sigs) (ht : TotG pre c68.sigs) (hg : T.sig 68 = some s68) (hC : CtAll Try.prog T.fns (presQ pre) c68.sigs) (hk : CpAll Try.prog c68.cps) (hi : ∀ xs ls, allHas (parIvs s68.params) xs → pre 68 xs ls → allHas iv68 xs)
    (h : ∀ (v0 : Int) (l0 : List Int), allHas iv68 [v0] → allL (parLvs s68.params) [l0] → pre 68 [v0] [l0] → p68 T I M pre (fun ys _ => ys = T.app 68 [v0] [l0]) v0 l0) : CT Try.prog T.fns (presQ pre) 68 s68 :=
  T.ctg (F := ⟨c68, []⟩) (fuel := 250) vc68 Try.checked.mixed hs ht hg hC hk Try.func68 I M (fun xs ls h1 h2 h3 => ⟨hi xs ls h1 h3, h2⟩) fun xs ls hx hl hp => by
    match xs, ls, hx, hl, hp with
    | [v0], [l0], hx, hl, hp => rw [q68]; exact h v0 l0 hx hl hp
/-- loop.example/g01242/laws.szStream -/
def s22 : Sig := ⟨[.lsts [[.i8], [.i8]], .val false [.i .i64]], [(false, [.i .i64])], true⟩
noncomputable def c22 : Cfg := ⟨Try.prog, [(68, s68)], [], [], []⟩
def iv22 : List Iv := [⟨(-9223372036854775808), 9223372036854775807⟩]
def t22 : VC :=
 (.call 68 (.l (.var 0) (.e (.var 0) .nil)) 1
 (.ite (.lt (.var 1) (.lit 0))
  (.fin (.e (.lit (-1)) .nil))
  (.call 68 (.l (.var 1) (.e (.var 1) .nil)) 1
  (.ite (.lt (.var 2) (.lit 0))
   (.fin (.e (.lit (-1)) .nil))
   (.fin (.e (.var 2) .nil))))))
theorem vc22 : vcOfI ⟨c22, []⟩ iv22 (parLvs s22.params) 250 Try.f22 s22 = t22 := by kernel_rfl
set_option linter.unusedVariables false in
def p22 (T : Tab) (I : Nat → Env → Env → Prop) (M : Nat → Env → Env → Nat) (pre : Nat → List Int → List (List Int) → Prop) (post : List Int → List (List Int) → Prop) (v0 : Int) (l0 l1 : List Int) : Prop :=
 ∀ v1 : Int, [v1] = T.outL 68 1 [v0] [l0] →
 ((decide ((v1 : Int) < 0) = true →
  post [(-1)] []) ∧ (decide ((v1 : Int) < 0) = false →
  ∀ v2 : Int, [v2] = T.outL 68 1 [v1] [l1] →
  ((decide ((v2 : Int) < 0) = true →
   post [(-1)] []) ∧ (decide ((v2 : Int) < 0) = false →
   post [v2] []))))
theorem q22 (T : Tab) (I : Nat → Env → Env → Prop) (M : Nat → Env → Env → Nat) (pre : Nat → List Int → List (List Int) → Prop) (post : List Int → List (List Int) → Prop) (v0 : Int) (l0 l1 : List Int) : t22.plain T (presG pre I M) post ⟨[v0], [l0, l1]⟩ = p22 T I M pre post v0 l0 l1 := by kernel_rfl
theorem k22 (T : Tab) (I : Nat → Env → Env → Prop) (M : Nat → Env → Env → Nat) (pre : Nat → List Int → List (List Int) → Prop) (hs : SubSig T c22.sigs) (ht : TotG pre c22.sigs) (hg : T.sig 22 = some s22) (hC : CtAll Try.prog T.fns (presQ pre) c22.sigs) (hk : CpAll Try.prog c22.cps) (hi : ∀ xs ls, allHas (parIvs s22.params) xs → pre 22 xs ls → allHas iv22 xs)
    (h : ∀ (v0 : Int) (l0 l1 : List Int), allHas iv22 [v0] → allL (parLvs s22.params) [l0, l1] → pre 22 [v0] [l0, l1] → p22 T I M pre (fun ys _ => ys = T.app 22 [v0] [l0, l1]) v0 l0 l1) : CT Try.prog T.fns (presQ pre) 22 s22 :=
  T.ctg (F := ⟨c22, []⟩) (fuel := 250) vc22 Try.checked.mixed hs ht hg hC hk Try.func22 I M (fun xs ls h1 h2 h3 => ⟨hi xs ls h1 h3, h2⟩) fun xs ls hx hl hp => by
    match xs, ls, hx, hl, hp with
    | [v0], [l0, l1], hx, hl, hp => rw [q22]; exact h v0 l0 l1 hx hl hp
/-- loop.example/g01242/laws.eqStream -/
def s26 : Sig := ⟨[.lsts [[.i8], [.i8]], .lsts [[.i8], [.i8]]], [(false, [.b])], true⟩
noncomputable def c26 : Cfg := ⟨Try.prog, [(21, s21)], [], [], []⟩
def iv26 : List Iv := []
def t26 : VC :=
 (.call 21 (.l (.var 0) (.l (.var 2) .nil)) 1
 (.ite (.not (.eq (.var 0) (.lit 1)))
  (.fin (.e (.lit 0) .nil))
  (.call 21 (.l (.var 1) (.l (.var 3) .nil)) 1
  (.ite (.not (.eq (.var 1) (.lit 1)))
   (.fin (.e (.lit 0) .nil))
   (.fin (.e (.lit 1) .nil))))))
theorem vc26 : vcOfI ⟨c26, []⟩ iv26 (parLvs s26.params) 250 Try.f26 s26 = t26 := by kernel_rfl
set_option linter.unusedVariables false in
def p26 (T : Tab) (I : Nat → Env → Env → Prop) (M : Nat → Env → Env → Nat) (pre : Nat → List Int → List (List Int) → Prop) (post : List Int → List (List Int) → Prop) (l0 l1 l2 l3 : List Int) : Prop :=
 ∀ v0 : Int, [v0] = T.outL 21 1 [] [l0, l2] →
 (((!decide ((v0 : Int) = 1)) = true →
  post [0] []) ∧ ((!decide ((v0 : Int) = 1)) = false →
  ∀ v1 : Int, [v1] = T.outL 21 1 [] [l1, l3] →
  (((!decide ((v1 : Int) = 1)) = true →
   post [0] []) ∧ ((!decide ((v1 : Int) = 1)) = false →
   post [1] []))))
theorem q26 (T : Tab) (I : Nat → Env → Env → Prop) (M : Nat → Env → Env → Nat) (pre : Nat → List Int → List (List Int) → Prop) (post : List Int → List (List Int) → Prop) (l0 l1 l2 l3 : List Int) : t26.plain T (presG pre I M) post ⟨[], [l0, l1, l2, l3]⟩ = p26 T I M pre post l0 l1 l2 l3 := by kernel_rfl
theorem k26 (T : Tab) (I : Nat → Env → Env → Prop) (M : Nat → Env → Env → Nat) (pre : Nat → List Int → List (List Int) → Prop) (hs : SubSig T c26.sigs) (ht : TotG pre c26.sigs) (hg : T.sig 26 = some s26) (hC : CtAll Try.prog T.fns (presQ pre) c26.sigs) (hk : CpAll Try.prog c26.cps) (hi : ∀ xs ls, allHas (parIvs s26.params) xs → pre 26 xs ls → allHas iv26 xs)
    (h : ∀ (l0 l1 l2 l3 : List Int), allHas iv26 [] → allL (parLvs s26.params) [l0, l1, l2, l3] → pre 26 [] [l0, l1, l2, l3] → p26 T I M pre (fun ys _ => ys = T.app 26 [] [l0, l1, l2, l3]) l0 l1 l2 l3) : CT Try.prog T.fns (presQ pre) 26 s26 :=
  T.ctg (F := ⟨c26, []⟩) (fuel := 250) vc26 Try.checked.mixed hs ht hg hC hk Try.func26 I M (fun xs ls h1 h2 h3 => ⟨hi xs ls h1 h3, h2⟩) fun xs ls hx hl hp => by
    match xs, ls, hx, hl, hp with
    | [], [l0, l1, l2, l3], hx, hl, hp => rw [q26]; exact h l0 l1 l2 l3 hx hl hp
/-- loop.example/g01242/spec.l03Digits -/
def s61 : Sig := ⟨[.lst [.i8]], [(false, [.b])], true⟩
noncomputable def c61 : Cfg := ⟨Try.prog, [], [], [], []⟩
def iv61 : List Iv := []
def t61 : VC :=
 (.loop 1 [(.lit 0)] [] [⟨(-9223372036854775808), 9223372036854775807⟩] []
  (.ite (.lt (.var 0) (.len (.var 0)))
   (.need [(.b (.le (.lit 0) (.var 0))), (.b (.lt (.var 0) (.len (.var 0))))]
   (.need [(.b (.lt (.add (.lit 0) (.var 0)) (.len (.var 0))))]
   (.bind (.at (.var 0) (.add (.lit 0) (.var 0)))
   (.ite (.le (.lit (-1)) (.var 1))
    (.need [(.b (.le (.lit 0) (.var 0))), (.b (.lt (.var 0) (.len (.var 0))))]
    (.need [(.b (.lt (.add (.lit 0) (.var 0)) (.len (.var 0))))]
    (.bind (.at (.var 0) (.add (.lit 0) (.var 0)))
    (.ite (.lt (.lit 1) (.var 2))
     (.fin (.e (.lit 0) .nil))
     (.bind (.wrap .i64 (.add (.var 0) (.lit 1)))
     (.again 1 0 1 [⟨(-9223372036854775808), 9223372036854775807⟩] [(.var 3)] []))))))
    (.fin (.e (.lit 0) .nil))))))
   (.fin (.e (.lit 1) .nil))))
theorem vc61 : vcOfI ⟨c61, [(2, ⟨1, [3], [], [4, 5, 6, 7, 10, 11, 12, 13, 14, 15, 16, 17, 18, 19, 20, 21, 2, 8, 9], [⟨(-9223372036854775808), 9223372036854775807⟩], [], []⟩)]⟩ iv61 (parLvs s61.params) 250 Try.f61 s61 = t61 := by kernel_rfl
set_option linter.unusedVariables false in
def p61 (T : Tab) (I : Nat → Env → Env → Prop) (M : Nat → Env → Env → Nat) (pre : Nat → List Int → List (List Int) → Prop) (post : List Int → List (List Int) → Prop) (l0 : List Int) : Prop :=
 ((allHas [⟨(-9223372036854775808), 9223372036854775807⟩] [0] ∧ I 1 ⟨[], [l0]⟩ ⟨[0], []⟩) ∧ ∀ v0 : Int, allHas [⟨(-9223372036854775808), 9223372036854775807⟩] [v0] → I 1 ⟨[], [l0]⟩ ⟨[v0], []⟩ →
  ((decide ((v0 : Int) < (List.length l0 : Int)) = true →
   ((decide ((0 : Int) ≤ v0) = true ∧ decide ((v0 : Int) < (List.length l0 : Int)) = true) ∧ ((decide ((0 : Int) ≤ v0) = true ∧ decide ((v0 : Int) < (List.length l0 : Int)) = true) →
   ((decide (((0 + v0) : Int) < (List.length l0 : Int)) = true) ∧ ((decide (((0 + v0) : Int) < (List.length l0 : Int)) = true) →
   ∀ v1 : Int, v1 = (List.getD l0 (Int.toNat (0 + v0)) 0) →
   ((decide (((-1) : Int) ≤ v1) = true →
    ((decide ((0 : Int) ≤ v0) = true ∧ decide ((v0 : Int) < (List.length l0 : Int)) = true) ∧ ((decide ((0 : Int) ≤ v0) = true ∧ decide ((v0 : Int) < (List.length l0 : Int)) = true) →
    ((decide (((0 + v0) : Int) < (List.length l0 : Int)) = true) ∧ ((decide (((0 + v0) : Int) < (List.length l0 : Int)) = true) →
    ∀ v2 : Int, v2 = (List.getD l0 (Int.toNat (0 + v0)) 0) →
    ((decide ((1 : Int) < v2) = true →
     post [0] []) ∧ (decide ((1 : Int) < v2) = false →
     ∀ v3 : Int, v3 = (IntKind.wrap .i64 (v0 + 1)) →
     (allHas [⟨(-9223372036854775808), 9223372036854775807⟩] [v3] ∧ I 1 ⟨[], [l0]⟩ ⟨[v3], []⟩ ∧ M 1 ⟨[], [l0]⟩ ⟨[v3], []⟩ < M 1 ⟨[], [l0]⟩ ⟨[v0], []⟩)))))))) ∧ (decide (((-1) : Int) ≤ v1) = false →
    post [0] []))))))) ∧ (decide ((v0 : Int) < (List.length l0 : Int)) = false →
   post [1] [])))
theorem q61 (T : Tab) (I : Nat → Env → Env → Prop) (M : Nat → Env → Env → Nat) (pre : Nat → List Int → List (List Int) → Prop) (post : List Int → List (List Int) → Prop) (l0 : List Int) : t61.plain T (presG pre I M) post ⟨[], [l0]⟩ = p61 T I M pre post l0 := by kernel_rfl
theorem k61 (T : Tab) (I : Nat → Env → Env → Prop) (M : Nat → Env → Env → Nat) (pre : Nat → List Int → List (List Int) → Prop) (hs : SubSig T c61.sigs) (ht : TotG pre c61.sigs) (hg : T.sig 61 = some s61) (hC : CtAll Try.prog T.fns (presQ pre) c61.sigs) (hk : CpAll Try.prog c61.cps) (hi : ∀ xs ls, allHas (parIvs s61.params) xs → pre 61 xs ls → allHas iv61 xs)
    (h : ∀ (l0 : List Int), allHas iv61 [] → allL (parLvs s61.params) [l0] → pre 61 [] [l0] → p61 T I M pre (fun ys _ => ys = T.app 61 [] [l0]) l0) : CT Try.prog T.fns (presQ pre) 61 s61 :=
  T.ctg (F := ⟨c61, [(2, ⟨1, [3], [], [4, 5, 6, 7, 10, 11, 12, 13, 14, 15, 16, 17, 18, 19, 20, 21, 2, 8, 9], [⟨(-9223372036854775808), 9223372036854775807⟩], [], []⟩)]⟩) (fuel := 250) vc61 Try.checked.mixed hs ht hg hC hk Try.func61 I M (fun xs ls h1 h2 h3 => ⟨hi xs ls h1 h3, h2⟩) fun xs ls hx hl hp => by
    match xs, ls, hx, hl, hp with
    | [], [l0], hx, hl, hp => rw [q61]; exact h l0 hx hl hp
/-- loop.example/g01242/impl.isNoDigit -/
def s65 : Sig := ⟨[.val false [.i .i8]], [(false, [.b])], true⟩
noncomputable def c65 : Cfg := ⟨Try.prog, [], [], [], []⟩
def iv65 : List Iv := [⟨(-128), 127⟩]
def t65 : VC :=
 (.ite (.le (.lit (-1)) (.var 0))
  (.fin (.e (.ite (.lt (.lit 1) (.var 0)) (.lit 1) (.lit 0)) .nil))
  (.fin (.e (.lit 1) .nil)))
theorem vc65 : vcOfI ⟨c65, []⟩ iv65 (parLvs s65.params) 250 Try.f65 s65 = t65 := by kernel_rfl
set_option linter.unusedVariables false in
def p65 (T : Tab) (I : Nat → Env → Env → Prop) (M : Nat → Env → Env → Nat) (pre : Nat → List Int → List (List Int) → Prop) (post : List Int → List (List Int) → Prop) (v0 : Int) : Prop :=
 ((decide (((-1) : Int) ≤ v0) = true →
  post [(if decide ((1 : Int) < v0) = true then 1 else 0)] []) ∧ (decide (((-1) : Int) ≤ v0) = false →
  post [1] []))
theorem q65 (T : Tab) (I : Nat → Env → Env → Prop) (M : Nat → Env → Env → Nat) (pre : Nat → List Int → List (List Int) → Prop) (post : List Int → List (List Int) → Prop) (v0 : Int) : t65.plain T (presG pre I M) post ⟨[v0], []⟩ = p65 T I M pre post v0 := by kernel_rfl
theorem k65 (T : Tab) (I : Nat → Env → Env → Prop) (M : Nat → Env → Env → Nat) (pre : Nat → List Int → List (List Int) → Prop) (hs : SubSig T c65.sigs) (ht : TotG pre c65.sigs) (hg : T.sig 65 = some s65) (hC : CtAll Try.prog T.fns (presQ pre) c65.sigs) (hk : CpAll Try.prog c65.cps) (hi : ∀ xs ls, allHas (parIvs s65.params) xs → pre 65 xs ls → allHas iv65 xs)
    (h : ∀ (v0 : Int), allHas iv65 [v0] → allL (parLvs s65.params) [] → pre 65 [v0] [] → p65 T I M pre (fun ys _ => ys = T.app 65 [v0] []) v0) : CT Try.prog T.fns (presQ pre) 65 s65 :=
  T.ctg (F := ⟨c65, []⟩) (fuel := 250) vc65 Try.checked.mixed hs ht hg hC hk Try.func65 I M (fun xs ls h1 h2 h3 => ⟨hi xs ls h1 h3, h2⟩) fun xs ls hx hl hp => by
    match xs, ls, hx, hl, hp with
    | [v0], [], hx, hl, hp => rw [q65]; exact h v0 hx hl hp
/-- slices.IndexFunc[[]int8,int8] -/
def s100 : Sig := ⟨[.lst [.i8], .fnc 65], [(false, [.i .i64])], true⟩
noncomputable def c100 : Cfg := ⟨Try.prog, [(65, s65)], [], [], []⟩
def iv100 : List Iv := []
def t100 : VC :=
 (.loop 1 [(.lit 0)] [] [⟨(-9223372036854775808), 9223372036854775807⟩] []
  (.ite (.lt (.var 0) (.len (.var 0)))
   (.need [(.b (.le (.lit 0) (.var 0))), (.b (.lt (.var 0) (.len (.var 0))))]
   (.need [(.b (.lt (.add (.lit 0) (.var 0)) (.len (.var 0))))]
   (.bind (.at (.var 0) (.add (.lit 0) (.var 0)))
   (.call 65 (.e (.var 1) .nil) 1
   (.ite (.eq (.var 2) (.lit 1))
    (.fin (.e (.var 0) .nil))
    (.again 1 0 1 [⟨(-9223372036854775808), 9223372036854775807⟩] [(.wrap .i64 (.add (.var 0) (.lit 1)))] []))))))
   (.fin (.e (.lit (-1)) .nil))))
theorem vc100 : vcOfI ⟨c100, [(2, ⟨1, [8], [], [9, 10, 5, 11, 12, 13, 14, 15, 16, 17, 4, 18], [⟨(-9223372036854775808), 9223372036854775807⟩], [], []⟩)]⟩ iv100 (parLvs s100.params) 250 Try.f100 s100 = t100 := by kernel_rfl
set_option linter.unusedVariables false in
def p100 (T : Tab) (I : Nat → Env → Env → Prop) (M : Nat → Env → Env → Nat) (pre : Nat → List Int → List (List Int) → Prop) (post : List Int → List (List Int) → Prop) (l0 : List Int) : Prop :=
 ((allHas [⟨(-9223372036854775808), 9223372036854775807⟩] [0] ∧ I 1 ⟨[], [l0]⟩ ⟨[0], []⟩) ∧ ∀ v0 : Int, allHas [⟨(-9223372036854775808), 9223372036854775807⟩] [v0] → I 1 ⟨[], [l0]⟩ ⟨[v0], []⟩ →
  ((decide ((v0 : Int) < (List.length l0 : Int)) = true →
   ((decide ((0 : Int) ≤ v0) = true ∧ decide ((v0 : Int) < (List.length l0 : Int)) = true) ∧ ((decide ((0 : Int) ≤ v0) = true ∧ decide ((v0 : Int) < (List.length l0 : Int)) = true) →
   ((decide (((0 + v0) : Int) < (List.length l0 : Int)) = true) ∧ ((decide (((0 + v0) : Int) < (List.length l0 : Int)) = true) →
   ∀ v1 : Int, v1 = (List.getD l0 (Int.toNat (0 + v0)) 0) →
   ∀ v2 : Int, [v2] = T.out 65 1 [v1] →
   ((decide ((v2 : Int) = 1) = true →
    post [v0] []) ∧ (decide ((v2 : Int) = 1) = false →
    (allHas [⟨(-9223372036854775808), 9223372036854775807⟩] [(IntKind.wrap .i64 (v0 + 1))] ∧ I 1 ⟨[], [l0]⟩ ⟨[(IntKind.wrap .i64 (v0 + 1))], []⟩ ∧ M 1 ⟨[], [l0]⟩ ⟨[(IntKind.wrap .i64 (v0 + 1))], []⟩ < M 1 ⟨[], [l0]⟩ ⟨[v0], []⟩)))))))) ∧ (decide ((v0 : Int) < (List.length l0 : Int)) = false →
   post [(-1)] [])))
theorem q100 (T : Tab) (I : Nat → Env → Env → Prop) (M : Nat → Env → Env → Nat) (pre : Nat → List Int → List (List Int) → Prop) (post : List Int → List (List Int) → Prop) (l0 : List Int) : t100.plain T (presG pre I M) post ⟨[], [l0]⟩ = p100 T I M pre post l0 := by kernel_rfl
theorem k100 (T : Tab) (I : Nat → Env → Env → Prop) (M : Nat → Env → Env → Nat) (pre : Nat → List Int → List (List Int) → Prop) (hs : SubSig T c100.sigs) (ht : TotG pre c100.sigs) (hg : T.sig 100 = some s100) (hC : CtAll Try.prog T.fns (presQ pre) c100.sigs) (hk : CpAll Try.prog c100.cps) (hi : ∀ xs ls, allHas (parIvs s100.params) xs → pre 100 xs ls → allHas iv100 xs)
    (h : ∀ (l0 : List Int), allHas iv100 [] → allL (parLvs s100.params) [l0] → pre 100 [] [l0] → p100 T I M pre (fun ys _ => ys = T.app 100 [] [l0]) l0) : CT Try.prog T.fns (presQ pre) 100 s100 :=
  T.ctg (F := ⟨c100, [(2, ⟨1, [8], [], [9, 10, 5, 11, 12, 13, 14, 15, 16, 17, 4, 18], [⟨(-9223372036854775808), 9223372036854775807⟩], [], []⟩)]⟩) (fuel := 250) vc100 Try.checked.mixed hs ht hg hC hk Try.func100 I M (fun xs ls h1 h2 h3 => ⟨hi xs ls h1 h3, h2⟩) fun xs ls hx hl hp => by
    match xs, ls, hx, hl, hp with
    | [], [l0], hx, hl, hp => rw [q100]; exact h l0 hx hl hp
/-- slices.ContainsFunc[[]int8,int8] -/
def s64 : Sig := ⟨[.lst [.i8], .fnc 65], [(false, [.b])], true⟩
noncomputable def c64 : Cfg := ⟨Try.prog, [(100, s100)], [], [], []⟩
def iv64 : List Iv := []
def t64 : VC :=
 (.call 100 (.l (.var 0) .nil) 1
 (.fin (.e (.ite (.le (.lit 0) (.var 0)) (.lit 1) (.lit 0)) .nil)))
theorem vc64 : vcOfI ⟨c64, []⟩ iv64 (parLvs s64.params) 250 Try.f64 s64 = t64 := by kernel_rfl
set_option linter.unusedVariables false in
def p64 (T : Tab) (I : Nat → Env → Env → Prop) (M : Nat → Env → Env → Nat) (pre : Nat → List Int → List (List Int) → Prop) (post : List Int → List (List Int) → Prop) (l0 : List Int) : Prop :=
 ∀ v0 : Int, [v0] = T.outL 100 1 [] [l0] →
 post [(if decide ((0 : Int) ≤ v0) = true then 1 else 0)] []
theorem q64 (T : Tab) (I : Nat → Env → Env → Prop) (M : Nat → Env → Env → Nat) (pre : Nat → List Int → List (List Int) → Prop) (post : List Int → List (List Int) → Prop) (l0 : List Int) : t64.plain T (presG pre I M) post ⟨[], [l0]⟩ = p64 T I M pre post l0 := by kernel_rfl
theorem k64 (T : Tab) (I : Nat → Env → Env → Prop) (M : Nat → Env → Env → Nat) (pre : Nat → List Int → List (List Int) → Prop) (hs : SubSig T c64.sigs) (ht : TotG pre c64.sigs) (hg : T.sig 64 = some s64) (hC : CtAll Try.prog T.fns (presQ pre) c64.sigs) (hk : CpAll Try.prog c64.cps) (hi : ∀ xs ls, allHas (parIvs s64.params) xs → pre 64 xs ls → allHas iv64 xs)
    (h : ∀ (l0 : List Int), allHas iv64 [] → allL (parLvs s64.params) [l0] → pre 64 [] [l0] → p64 T I M pre (fun ys _ => ys = T.app 64 [] [l0]) l0) : CT Try.prog T.fns (presQ pre) 64 s64 :=
  T.ctg (F := ⟨c64, []⟩) (fuel := 250) vc64 Try.checked.mixed hs ht hg hC hk Try.func64 I M (fun xs ls h1 h2 h3 => ⟨hi xs ls h1 h3, h2⟩) fun xs ls hx hl hp => by
    match xs, ls, hx, hl, hp with
    | [], [l0], hx, hl, hp => rw [q64]; exact h l0 hx hl hp
/-- loop.example/g01242/spec.l03Ok -/
def s69 : Sig := ⟨[.plsts [[.i8], [.i8]]], [(false, [.b])], true⟩
noncomputable def c69 : Cfg := ⟨Try.prog, [(89, s89), (61, s61)], [], [], []⟩
def iv69 : List Iv := []
def t69 : VC :=
 (.ite (.le (.len (.var 0)) (.lit 16))
  (.call 89 (.e (.len (.var 1)) (.e (.lit 1) (.e (.lit 14) .nil))) 1
  (.ite (.eq (.var 0) (.lit 1))
   (.call 61 (.l (.var 0) .nil) 1
   (.ite (.eq (.var 1) (.lit 1))
    (.call 61 (.l (.var 1) .nil) 1
    (.fin (.e (.var 2) .nil)))
    (.fin (.e (.lit 0) .nil))))
   (.fin (.e (.lit 0) .nil))))
  (.fin (.e (.lit 0) .nil)))
theorem vc69 : vcOfI ⟨c69, []⟩ iv69 (parLvs s69.params) 250 Try.f69 s69 = t69 := by kernel_rfl
set_option linter.unusedVariables false in
def p69 (T : Tab) (I : Nat → Env → Env → Prop) (M : Nat → Env → Env → Nat) (pre : Nat → List Int → List (List Int) → Prop) (post : List Int → List (List Int) → Prop) (l0 l1 : List Int) : Prop :=
 ((decide (((List.length l0 : Int) : Int) ≤ 16) = true →
  ∀ v0 : Int, [v0] = T.out 89 1 [(List.length l1 : Int), 1, 14] →
  ((decide ((v0 : Int) = 1) = true →
   ∀ v1 : Int, [v1] = T.outL 61 1 [] [l0] →
   ((decide ((v1 : Int) = 1) = true →
    ∀ v2 : Int, [v2] = T.outL 61 1 [] [l1] →
    post [v2] []) ∧ (decide ((v1 : Int) = 1) = false →
    post [0] []))) ∧ (decide ((v0 : Int) = 1) = false →
   post [0] []))) ∧ (decide (((List.length l0 : Int) : Int) ≤ 16) = false →
  post [0] []))
theorem q69 (T : Tab) (I : Nat → Env → Env → Prop) (M : Nat → Env → Env → Nat) (pre : Nat → List Int → List (List Int) → Prop) (post : List Int → List (List Int) → Prop) (l0 l1 : List Int) : t69.plain T (presG pre I M) post ⟨[], [l0, l1]⟩ = p69 T I M pre post l0 l1 := by kernel_rfl
theorem k69 (T : Tab) (I : Nat → Env → Env → Prop) (M : Nat → Env → Env → Nat) (pre : Nat → List Int → List (List Int) → Prop) (hs : SubSig T c69.sigs) (ht : TotG pre c69.sigs) (hg : T.sig 69 = some s69) (hC : CtAll Try.prog T.fns (presQ pre) c69.sigs) (hk : CpAll Try.prog c69.cps) (hi : ∀ xs ls, allHas (parIvs s69.params) xs → pre 69 xs ls → allHas iv69 xs)
    (h : ∀ (l0 l1 : List Int), allHas iv69 [] → allL (parLvs s69.params) [l0, l1] → pre 69 [] [l0, l1] → p69 T I M pre (fun ys _ => ys = T.app 69 [] [l0, l1]) l0 l1) : CT Try.prog T.fns (presQ pre) 69 s69 :=
  T.ctg (F := ⟨c69, []⟩) (fuel := 250) vc69 Try.checked.mixed hs ht hg hC hk Try.func69 I M (fun xs ls h1 h2 h3 => ⟨hi xs ls h1 h3, h2⟩) fun xs ls hx hl hp => by
    match xs, ls, hx, hl, hp with
    | [], [l0, l1], hx, hl, hp => rw [q69]; exact h l0 l1 hx hl hp
/-- loop.example/g01242/impl.ValidStream -/
def s71 : Sig := ⟨[.lsts [[.i8], [.i8]]], [(false, [.b])], true⟩
noncomputable def c71 : Cfg := ⟨Try.prog, [(64, s64)], [], [], []⟩
def iv71 : List Iv := []
def t71 : VC :=
 (.ite (.le (.len (.var 0)) (.lit 16))
  (.ite (.le (.lit 1) (.len (.var 1)))
   (.ite (.lt (.lit 14) (.len (.var 1)))
    (.fin (.e (.lit 0) .nil))
    (.call 64 (.l (.var 0) .nil) 1
    (.ite (.not (.eq (.var 0) (.lit 1)))
     (.call 64 (.l (.var 1) .nil) 1
     (.fin (.e (.ite (.not (.eq (.var 1) (.lit 1))) (.lit 1) (.lit 0)) .nil)))
     (.fin (.e (.lit 0) .nil)))))
   (.fin (.e (.lit 0) .nil)))
  (.fin (.e (.lit 0) .nil)))
theorem vc71 : vcOfI ⟨c71, []⟩ iv71 (parLvs s71.params) 250 Try.f71 s71 = t71 := by kernel_rfl
set_option linter.unusedVariables false in
def p71 (T : Tab) (I : Nat → Env → Env → Prop) (M : Nat → Env → Env → Nat) (pre : Nat → List Int → List (List Int) → Prop) (post : List Int → List (List Int) → Prop) (l0 l1 : List Int) : Prop :=
 ((decide (((List.length l0 : Int) : Int) ≤ 16) = true →
  ((decide ((1 : Int) ≤ (List.length l1 : Int)) = true →
   ((decide ((14 : Int) < (List.length l1 : Int)) = true →
    post [0] []) ∧ (decide ((14 : Int) < (List.length l1 : Int)) = false →
    ∀ v0 : Int, [v0] = T.outL 64 1 [] [l0] →
    (((!decide ((v0 : Int) = 1)) = true →
     ∀ v1 : Int, [v1] = T.outL 64 1 [] [l1] →
     post [(if (!decide ((v1 : Int) = 1)) = true then 1 else 0)] []) ∧ ((!decide ((v0 : Int) = 1)) = false →
     post [0] []))))) ∧ (decide ((1 : Int) ≤ (List.length l1 : Int)) = false →
   post [0] []))) ∧ (decide (((List.length l0 : Int) : Int) ≤ 16) = false →
  post [0] []))
theorem q71 (T : Tab) (I : Nat → Env → Env → Prop) (M : Nat → Env → Env → Nat) (pre : Nat → List Int → List (List Int) → Prop) (post : List Int → List (List Int) → Prop) (l0 l1 : List Int) : t71.plain T (presG pre I M) post ⟨[], [l0, l1]⟩ = p71 T I M pre post l0 l1 := by kernel_rfl
theorem k71 (T : Tab) (I : Nat → Env → Env → Prop) (M : Nat → Env → Env → Nat) (pre : Nat → List Int → List (List Int) → Prop) (hs : SubSig T c71.sigs) (ht : TotG pre c71.sigs) (hg : T.sig 71 = some s71) (hC : CtAll Try.prog T.fns (presQ pre) c71.sigs) (hk : CpAll Try.prog c71.cps) (hi : ∀ xs ls, allHas (parIvs s71.params) xs → pre 71 xs ls → allHas iv71 xs)
    (h : ∀ (l0 l1 : List Int), allHas iv71 [] → allL (parLvs s71.params) [l0, l1] → pre 71 [] [l0, l1] → p71 T I M pre (fun ys _ => ys = T.app 71 [] [l0, l1]) l0 l1) : CT Try.prog T.fns (presQ pre) 71 s71 :=
  T.ctg (F := ⟨c71, []⟩) (fuel := 250) vc71 Try.checked.mixed hs ht hg hC hk Try.func71 I M (fun xs ls h1 h2 h3 => ⟨hi xs ls h1 h3, h2⟩) fun xs ls hx hl hp => by
    match xs, ls, hx, hl, hp with
    | [], [l0, l1], hx, hl, hp => rw [q71]; exact h l0 l1 hx hl hp
/-- loop.example/g01242/impl.unitsOf -/
def s66 : Sig := ⟨[.lst [.i8]], [(false, [.i .i64])], false⟩
noncomputable def c66 : Cfg := ⟨Try.prog, [], [], [], []⟩
def iv66 : List Iv := []
def t66 : VC :=
 (.loop 1 [(.lit 0), (.lit 0)] [] [⟨(-9223372036854775808), 9223372036854775807⟩, ⟨(-9223372036854775808), 9223372036854775807⟩] []
  (.ite (.lt (.var 1) (.len (.var 0)))
   (.need [(.b (.le (.lit 0) (.var 1))), (.b (.lt (.var 1) (.len (.var 0))))]
   (.need [(.b (.lt (.add (.lit 0) (.var 1)) (.len (.var 0))))]
   (.bind (.at (.var 0) (.add (.lit 0) (.var 1)))
   (.bind (.wrap .i64 (.add (.wrap .i64 (.mul (.lit 2) (.var 0))) (.var 2)))
   (.again 1 0 1 [⟨(-9223372036854775808), 9223372036854775807⟩, ⟨(-9223372036854775808), 9223372036854775807⟩] [(.var 3), (.wrap .i64 (.add (.var 1) (.lit 1)))] [])))))
   (.fin (.e (.var 0) .nil))))
theorem vc66 : vcOfI ⟨c66, [(3, ⟨1, [3, 8], [], [9, 10, 11, 5, 12, 13, 14, 15, 16, 17], [⟨(-9223372036854775808), 9223372036854775807⟩, ⟨(-9223372036854775808), 9223372036854775807⟩], [], []⟩)]⟩ iv66 (parLvs s66.params) 250 Try.f66 s66 = t66 := by kernel_rfl
set_option linter.unusedVariables false in
def p66 (T : Tab) (I : Nat → Env → Env → Prop) (M : Nat → Env → Env → Nat) (pre : Nat → List Int → List (List Int) → Prop) (post : List Int → List (List Int) → Prop) (l0 : List Int) : Prop :=
 ((allHas [⟨(-9223372036854775808), 9223372036854775807⟩, ⟨(-9223372036854775808), 9223372036854775807⟩] [0, 0] ∧ I 1 ⟨[], [l0]⟩ ⟨[0, 0], []⟩) ∧ ∀ v0 v1 : Int, allHas [⟨(-9223372036854775808), 9223372036854775807⟩, ⟨(-9223372036854775808), 9223372036854775807⟩] [v0, v1] → I 1 ⟨[], [l0]⟩ ⟨[v0, v1], []⟩ →
  ((decide ((v1 : Int) < (List.length l0 : Int)) = true →
   ((decide ((0 : Int) ≤ v1) = true ∧ decide ((v1 : Int) < (List.length l0 : Int)) = true) ∧ ((decide ((0 : Int) ≤ v1) = true ∧ decide ((v1 : Int) < (List.length l0 : Int)) = true) →
   ((decide (((0 + v1) : Int) < (List.length l0 : Int)) = true) ∧ ((decide (((0 + v1) : Int) < (List.length l0 : Int)) = true) →
   ∀ v2 : Int, v2 = (List.getD l0 (Int.toNat (0 + v1)) 0) →
   ∀ v3 : Int, v3 = (IntKind.wrap .i64 ((IntKind.wrap .i64 (2 * v0)) + v2)) →
   (allHas [⟨(-9223372036854775808), 9223372036854775807⟩, ⟨(-9223372036854775808), 9223372036854775807⟩] [v3, (IntKind.wrap .i64 (v1 + 1))] ∧ I 1 ⟨[], [l0]⟩ ⟨[v3, (IntKind.wrap .i64 (v1 + 1))], []⟩ ∧ M 1 ⟨[], [l0]⟩ ⟨[v3, (IntKind.wrap .i64 (v1 + 1))], []⟩ < M 1 ⟨[], [l0]⟩ ⟨[v0, v1], []⟩)))))) ∧ (decide ((v1 : Int) < (List.length l0 : Int)) = false →
   post [v0] [])))
theorem q66 (T : Tab) (I : Nat → Env → Env → Prop) (M : Nat → Env → Env → Nat) (pre : Nat → List Int → List (List Int) → Prop) (post : List Int → List (List Int) → Prop) (l0 : List Int) : t66.plain T (presG pre I M) post ⟨[], [l0]⟩ = p66 T I M pre post l0 := by kernel_rfl
theorem k66 (T : Tab) (I : Nat → Env → Env → Prop) (M : Nat → Env → Env → Nat) (pre : Nat → List Int → List (List Int) → Prop) (hs : SubSig T c66.sigs) (ht : TotG pre c66.sigs) (hg : T.sig 66 = some s66) (hC : CtAll Try.prog T.fns (presQ pre) c66.sigs) (hk : CpAll Try.prog c66.cps) (hi : ∀ xs ls, allHas (parIvs s66.params) xs → pre 66 xs ls → allHas iv66 xs)
    (h : ∀ (l0 : List Int), allHas iv66 [] → allL (parLvs s66.params) [l0] → pre 66 [] [l0] → p66 T I M pre (fun ys _ => ys = T.app 66 [] [l0]) l0) : CT Try.prog T.fns (presQ pre) 66 s66 :=
  T.ctg (F := ⟨c66, [(3, ⟨1, [3, 8], [], [9, 10, 11, 5, 12, 13, 14, 15, 16, 17], [⟨(-9223372036854775808), 9223372036854775807⟩, ⟨(-9223372036854775808), 9223372036854775807⟩], [], []⟩)]⟩) (fuel := 250) vc66 Try.checked.mixed hs ht hg hC hk Try.func66 I M (fun xs ls h1 h2 h3 => ⟨hi xs ls h1 h3, h2⟩) fun xs ls hx hl hp => by
    match xs, ls, hx, hl, hp with
    | [], [l0], hx, hl, hp => rw [q66]; exact h l0 hx hl hp
/-- loop.example/g01242/spec.l03Whole -/
def s62 : Sig := ⟨[.lst [.i8]], [(false, [.i .i64])], false⟩
noncomputable def c62 : Cfg := ⟨Try.prog, [], [], [], []⟩
def iv62 : List Iv := []
def t62 : VC :=
 (.loop 1 [(.lit 0), (.lit 0)] [] [⟨(-9223372036854775808), 9223372036854775807⟩, ⟨(-9223372036854775808), 9223372036854775807⟩] []
  (.ite (.lt (.var 1) (.len (.var 0)))
   (.need [(.b (.le (.lit 0) (.var 1))), (.b (.lt (.var 1) (.len (.var 0))))]
   (.need [(.b (.lt (.add (.lit 0) (.var 1)) (.len (.var 0))))]
   (.bind (.at (.var 0) (.add (.lit 0) (.var 1)))
   (.bind (.wrap .i64 (.add (.wrap .i64 (.mul (.lit 2) (.var 0))) (.var 2)))
   (.bind (.wrap .i64 (.add (.var 1) (.lit 1)))
   (.again 1 0 1 [⟨(-9223372036854775808), 9223372036854775807⟩, ⟨(-9223372036854775808), 9223372036854775807⟩] [(.var 3), (.var 4)] []))))))
   (.fin (.e (.var 0) .nil))))
theorem vc62 : vcOfI ⟨c62, [(3, ⟨1, [3, 4], [], [5, 6, 7, 8, 11, 12, 13, 14, 15, 16, 17, 18, 9, 10], [⟨(-9223372036854775808), 9223372036854775807⟩, ⟨(-9223372036854775808), 9223372036854775807⟩], [], []⟩)]⟩ iv62 (parLvs s62.params) 250 Try.f62 s62 = t62 := by kernel_rfl
set_option linter.unusedVariables false in
def p62 (T : Tab) (I : Nat → Env → Env → Prop) (M : Nat → Env → Env → Nat) (pre : Nat → List Int → List (List Int) → Prop) (post : List Int → List (List Int) → Prop) (l0 : List Int) : Prop :=
 ((allHas [⟨(-9223372036854775808), 9223372036854775807⟩, ⟨(-9223372036854775808), 9223372036854775807⟩] [0, 0] ∧ I 1 ⟨[], [l0]⟩ ⟨[0, 0], []⟩) ∧ ∀ v0 v1 : Int, allHas [⟨(-9223372036854775808), 9223372036854775807⟩, ⟨(-9223372036854775808), 9223372036854775807⟩] [v0, v1] → I 1 ⟨[], [l0]⟩ ⟨[v0, v1], []⟩ →
  ((decide ((v1 : Int) < (List.length l0 : Int)) = true →
   ((decide ((0 : Int) ≤ v1) = true ∧ decide ((v1 : Int) < (List.length l0 : Int)) = true) ∧ ((decide ((0 : Int) ≤ v1) = true ∧ decide ((v1 : Int) < (List.length l0 : Int)) = true) →
   ((decide (((0 + v1) : Int) < (List.length l0 : Int)) = true) ∧ ((decide (((0 + v1) : Int) < (List.length l0 : Int)) = true) →
   ∀ v2 : Int, v2 = (List.getD l0 (Int.toNat (0 + v1)) 0) →
   ∀ v3 : Int, v3 = (IntKind.wrap .i64 ((IntKind.wrap .i64 (2 * v0)) + v2)) →
   ∀ v4 : Int, v4 = (IntKind.wrap .i64 (v1 + 1)) →
   (allHas [⟨(-9223372036854775808), 9223372036854775807⟩, ⟨(-9223372036854775808), 9223372036854775807⟩] [v3, v4] ∧ I 1 ⟨[], [l0]⟩ ⟨[v3, v4], []⟩ ∧ M 1 ⟨[], [l0]⟩ ⟨[v3, v4], []⟩ < M 1 ⟨[], [l0]⟩ ⟨[v0, v1], []⟩)))))) ∧ (decide ((v1 : Int) < (List.length l0 : Int)) = false →
   post [v0] [])))
theorem q62 (T : Tab) (I : Nat → Env → Env → Prop) (M : Nat → Env → Env → Nat) (pre : Nat → List Int → List (List Int) → Prop) (post : List Int → List (List Int) → Prop) (l0 : List Int) : t62.plain T (presG pre I M) post ⟨[], [l0]⟩ = p62 T I M pre post l0 := by kernel_rfl
theorem k62 (T : Tab) (I : Nat → Env → Env → Prop) (M : Nat → Env → Env → Nat) (pre : Nat → List Int → List (List Int) → Prop) (hs : SubSig T c62.sigs) (ht : TotG pre c62.sigs) (hg : T.sig 62 = some s62) (hC : CtAll Try.prog T.fns (presQ pre) c62.sigs) (hk : CpAll Try.prog c62.cps) (hi : ∀ xs ls, allHas (parIvs s62.params) xs → pre 62 xs ls → allHas iv62 xs)
    (h : ∀ (l0 : List Int), allHas iv62 [] → allL (parLvs s62.params) [l0] → pre 62 [] [l0] → p62 T I M pre (fun ys _ => ys = T.app 62 [] [l0]) l0) : CT Try.prog T.fns (presQ pre) 62 s62 :=
  T.ctg (F := ⟨c62, [(3, ⟨1, [3, 4], [], [5, 6, 7, 8, 11, 12, 13, 14, 15, 16, 17, 18, 9, 10], [⟨(-9223372036854775808), 9223372036854775807⟩, ⟨(-9223372036854775808), 9223372036854775807⟩], [], []⟩)]⟩) (fuel := 250) vc62 Try.checked.mixed hs ht hg hC hk Try.func62 I M (fun xs ls h1 h2 h3 => ⟨hi xs ls h1 h3, h2⟩) fun xs ls hx hl hp => by
    match xs, ls, hx, hl, hp with
    | [], [l0], hx, hl, hp => rw [q62]; exact h l0 hx hl hp
/-- loop.example/g01242/spec.l03Value -/
def s70 : Sig := ⟨[.plsts [[.i8], [.i8]]], [(true, [.i .i64, .i .i64])], false⟩
noncomputable def c70 : Cfg := ⟨Try.prog, [(62, s62), (63, s63)], [], [], []⟩
def iv70 : List Iv := []
def t70 : VC :=
 (.bind (.wrap .i64 (.sub (.wrap .i64 (.mul (.lit 1) (.pow2 (.ite (.lt (.len (.var 1)) (.lit 64)) (.len (.var 1)) (.lit 64))))) (.lit 1)))
 (.need [(.pre 62 (.l (.var 0) .nil)), (.pre 62 (.l (.var 1) .nil))]
 (.call 62 (.l (.var 0) .nil) 1
 (.call 62 (.l (.var 1) .nil) 1
 (.bind (.wrap .i64 (.add (.wrap .i64 (.mul (.var 1) (.var 0))) (.var 2)))
 (.bind (.wrap .i64 (.mul (.var 0) (.pow2 (.ite (.lt (.len (.var 0)) (.lit 64)) (.len (.var 0)) (.lit 64)))))
 (.need [(.pre 63 (.e (.var 3) (.e (.var 4) .nil)))]
 (.call 63 (.e (.var 3) (.e (.var 4) .nil)) 3
 (.fin (.e (.var 5) (.e (.var 6) .nil)))))))))))
theorem vc70 : vcOfI ⟨c70, []⟩ iv70 (parLvs s70.params) 250 Try.f70 s70 = t70 := by kernel_rfl
set_option linter.unusedVariables false in
def p70 (T : Tab) (I : Nat → Env → Env → Prop) (M : Nat → Env → Env → Nat) (pre : Nat → List Int → List (List Int) → Prop) (post : List Int → List (List Int) → Prop) (l0 l1 : List Int) : Prop :=
 ∀ v0 : Int, v0 = (IntKind.wrap .i64 ((IntKind.wrap .i64 (1 * (2 ^ ((if decide (((List.length l1 : Int) : Int) < 64) = true then (List.length l1 : Int) else 64) : Int).toNat))) - 1)) →
 ((pre 62 [] [l0] ∧ pre 62 [] [l1]) ∧ ((pre 62 [] [l0] ∧ pre 62 [] [l1]) →
 ∀ v1 : Int, [v1] = T.outL 62 1 [] [l0] →
 ∀ v2 : Int, [v2] = T.outL 62 1 [] [l1] →
 ∀ v3 : Int, v3 = (IntKind.wrap .i64 ((IntKind.wrap .i64 (v1 * v0)) + v2)) →
 ∀ v4 : Int, v4 = (IntKind.wrap .i64 (v0 * (2 ^ ((if decide (((List.length l0 : Int) : Int) < 64) = true then (List.length l0 : Int) else 64) : Int).toNat))) →
 ((pre 63 [v3, v4] []) ∧ ((pre 63 [v3, v4] []) →
 ∀ v5 v6 v7 : Int, [v5, v6, v7] = T.out 63 3 [v3, v4] →
 post [v5, v6] []))))
theorem q70 (T : Tab) (I : Nat → Env → Env → Prop) (M : Nat → Env → Env → Nat) (pre : Nat → List Int → List (List Int) → Prop) (post : List Int → List (List Int) → Prop) (l0 l1 : List Int) : t70.plain T (presG pre I M) post ⟨[], [l0, l1]⟩ = p70 T I M pre post l0 l1 := by kernel_rfl
theorem k70 (T : Tab) (I : Nat → Env → Env → Prop) (M : Nat → Env → Env → Nat) (pre : Nat → List Int → List (List Int) → Prop) (hs : SubSig T c70.sigs) (ht : TotG pre c70.sigs) (hg : T.sig 70 = some s70) (hC : CtAll Try.prog T.fns (presQ pre) c70.sigs) (hk : CpAll Try.prog c70.cps) (hi : ∀ xs ls, allHas (parIvs s70.params) xs → pre 70 xs ls → allHas iv70 xs)
    (h : ∀ (l0 l1 : List Int), allHas iv70 [] → allL (parLvs s70.params) [l0, l1] → pre 70 [] [l0, l1] → p70 T I M pre (fun ys _ => ys = T.app 70 [] [l0, l1]) l0 l1) : CT Try.prog T.fns (presQ pre) 70 s70 :=
  T.ctg (F := ⟨c70, []⟩) (fuel := 250) vc70 Try.checked.mixed hs ht hg hC hk Try.func70 I M (fun xs ls h1 h2 h3 => ⟨hi xs ls h1 h3, h2⟩) fun xs ls hx hl hp => by
    match xs, ls, hx, hl, hp with
    | [], [l0, l1], hx, hl, hp => rw [q70]; exact h l0 l1 hx hl hp
/-- (loop.example/g01242/impl.Stream).value -/
def s72 : Sig := ⟨[.lsts [[.i8], [.i8]]], [(true, [.i .i64, .i .i64])], false⟩
noncomputable def c72 : Cfg := ⟨Try.prog, [(66, s66), (67, s67)], [], [], []⟩
def iv72 : List Iv := []
def t72 : VC :=
 (.bind (.wrap .i64 (.sub (.wrap .i64 (.mul (.lit 1) (.pow2 (.ite (.lt (.len (.var 1)) (.lit 64)) (.len (.var 1)) (.lit 64))))) (.lit 1)))
 (.need [(.pre 66 (.l (.var 0) .nil)), (.pre 66 (.l (.var 1) .nil))]
 (.call 66 (.l (.var 0) .nil) 1
 (.call 66 (.l (.var 1) .nil) 1
 (.call 67 (.e (.wrap .i64 (.add (.wrap .i64 (.mul (.var 1) (.var 0))) (.var 2))) (.e (.wrap .i64 (.mul (.var 0) (.pow2 (.ite (.lt (.len (.var 0)) (.lit 64)) (.len (.var 0)) (.lit 64))))) .nil)) 3
 (.fin (.e (.var 3) (.e (.var 4) .nil))))))))
theorem vc72 : vcOfI ⟨c72, []⟩ iv72 (parLvs s72.params) 250 Try.f72 s72 = t72 := by kernel_rfl
set_option linter.unusedVariables false in
def p72 (T : Tab) (I : Nat → Env → Env → Prop) (M : Nat → Env → Env → Nat) (pre : Nat → List Int → List (List Int) → Prop) (post : List Int → List (List Int) → Prop) (l0 l1 : List Int) : Prop :=
 ∀ v0 : Int, v0 = (IntKind.wrap .i64 ((IntKind.wrap .i64 (1 * (2 ^ ((if decide (((List.length l1 : Int) : Int) < 64) = true then (List.length l1 : Int) else 64) : Int).toNat))) - 1)) →
 ((pre 66 [] [l0] ∧ pre 66 [] [l1]) ∧ ((pre 66 [] [l0] ∧ pre 66 [] [l1]) →
 ∀ v1 : Int, [v1] = T.outL 66 1 [] [l0] →
 ∀ v2 : Int, [v2] = T.outL 66 1 [] [l1] →
 ∀ v3 v4 v5 : Int, [v3, v4, v5] = T.out 67 3 [(IntKind.wrap .i64 ((IntKind.wrap .i64 (v1 * v0)) + v2)), (IntKind.wrap .i64 (v0 * (2 ^ ((if decide (((List.length l0 : Int) : Int) < 64) = true then (List.length l0 : Int) else 64) : Int).toNat)))] →
 post [v3, v4] []))
theorem q72 (T : Tab) (I : Nat → Env → Env → Prop) (M : Nat → Env → Env → Nat) (pre : Nat → List Int → List (List Int) → Prop) (post : List Int → List (List Int) → Prop) (l0 l1 : List Int) : t72.plain T (presG pre I M) post ⟨[], [l0, l1]⟩ = p72 T I M pre post l0 l1 := by kernel_rfl
theorem k72 (T : Tab) (I : Nat → Env → Env → Prop) (M : Nat → Env → Env → Nat) (pre : Nat → List Int → List (List Int) → Prop) (hs : SubSig T c72.sigs) (ht : TotG pre c72.sigs) (hg : T.sig 72 = some s72) (hC : CtAll Try.prog T.fns (presQ pre) c72.sigs) (hk : CpAll Try.prog c72.cps) (hi : ∀ xs ls, allHas (parIvs s72.params) xs → pre 72 xs ls → allHas iv72 xs)
    (h : ∀ (l0 l1 : List Int), allHas iv72 [] → allL (parLvs s72.params) [l0, l1] → pre 72 [] [l0, l1] → p72 T I M pre (fun ys _ => ys = T.app 72 [] [l0, l1]) l0 l1) : CT Try.prog T.fns (presQ pre) 72 s72 :=
  T.ctg (F := ⟨c72, []⟩) (fuel := 250) vc72 Try.checked.mixed hs ht hg hC hk Try.func72 I M (fun xs ls h1 h2 h3 => ⟨hi xs ls h1 h3, h2⟩) fun xs ls hx hl hp => by
    match xs, ls, hx, hl, hp with
    | [], [l0, l1], hx, hl, hp => rw [q72]; exact h l0 l1 hx hl hp
/-- loop.example/g01242/spec.ValueOf -/
def s23 : Sig := ⟨[.lsts [[.i8], [.i8]]], [(true, [.i .i64, .i .i64]), (false, [.i .i64])], true⟩
noncomputable def c23 : Cfg := ⟨Try.prog, [(69, s69), (70, s70)], [], [], []⟩
def iv23 : List Iv := []
def t23 : VC :=
 (.call 69 (.l (.var 0) (.l (.var 1) .nil)) 1
 (.ite (.not (.eq (.var 0) (.lit 1)))
  (.fin (.e (.lit 0) (.e (.lit 0) (.e (.lit 1) .nil))))
  (.need [(.pre 70 (.l (.var 0) (.l (.var 1) .nil)))]
  (.call 70 (.l (.var 0) (.l (.var 1) .nil)) 2
  (.fin (.e (.var 1) (.e (.var 2) (.e (.lit 0) .nil))))))))
theorem vc23 : vcOfI ⟨c23, []⟩ iv23 (parLvs s23.params) 250 Try.f23 s23 = t23 := by kernel_rfl
set_option linter.unusedVariables false in
def p23 (T : Tab) (I : Nat → Env → Env → Prop) (M : Nat → Env → Env → Nat) (pre : Nat → List Int → List (List Int) → Prop) (post : List Int → List (List Int) → Prop) (l0 l1 : List Int) : Prop :=
 ∀ v0 : Int, [v0] = T.outL 69 1 [] [l0, l1] →
 (((!decide ((v0 : Int) = 1)) = true →
  post [0, 0, 1] []) ∧ ((!decide ((v0 : Int) = 1)) = false →
  ((pre 70 [] [l0, l1]) ∧ ((pre 70 [] [l0, l1]) →
  ∀ v1 v2 : Int, [v1, v2] = T.outL 70 2 [] [l0, l1] →
  post [v1, v2, 0] []))))
theorem q23 (T : Tab) (I : Nat → Env → Env → Prop) (M : Nat → Env → Env → Nat) (pre : Nat → List Int → List (List Int) → Prop) (post : List Int → List (List Int) → Prop) (l0 l1 : List Int) : t23.plain T (presG pre I M) post ⟨[], [l0, l1]⟩ = p23 T I M pre post l0 l1 := by kernel_rfl
theorem k23 (T : Tab) (I : Nat → Env → Env → Prop) (M : Nat → Env → Env → Nat) (pre : Nat → List Int → List (List Int) → Prop) (hs : SubSig T c23.sigs) (ht : TotG pre c23.sigs) (hg : T.sig 23 = some s23) (hC : CtAll Try.prog T.fns (presQ pre) c23.sigs) (hk : CpAll Try.prog c23.cps) (hi : ∀ xs ls, allHas (parIvs s23.params) xs → pre 23 xs ls → allHas iv23 xs)
    (h : ∀ (l0 l1 : List Int), allHas iv23 [] → allL (parLvs s23.params) [l0, l1] → pre 23 [] [l0, l1] → p23 T I M pre (fun ys _ => ys = T.app 23 [] [l0, l1]) l0 l1) : CT Try.prog T.fns (presQ pre) 23 s23 :=
  T.ctg (F := ⟨c23, []⟩) (fuel := 250) vc23 Try.checked.mixed hs ht hg hC hk Try.func23 I M (fun xs ls h1 h2 h3 => ⟨hi xs ls h1 h3, h2⟩) fun xs ls hx hl hp => by
    match xs, ls, hx, hl, hp with
    | [], [l0, l1], hx, hl, hp => rw [q23]; exact h l0 l1 hx hl hp
/-- loop.example/g01242/impl.ValueOf -/
def s25 : Sig := ⟨[.lsts [[.i8], [.i8]]], [(true, [.i .i64, .i .i64]), (false, [.i .i64])], true⟩
noncomputable def c25 : Cfg := ⟨Try.prog, [(71, s71), (72, s72)], [], [], []⟩
def iv25 : List Iv := []
def t25 : VC :=
 (.call 71 (.l (.var 0) (.l (.var 1) .nil)) 1
 (.ite (.not (.eq (.var 0) (.lit 1)))
  (.fin (.e (.lit 0) (.e (.lit 0) (.e (.lit 1) .nil))))
  (.need [(.pre 72 (.l (.var 0) (.l (.var 1) .nil)))]
  (.call 72 (.l (.var 0) (.l (.var 1) .nil)) 2
  (.fin (.e (.var 1) (.e (.var 2) (.e (.lit 0) .nil))))))))
theorem vc25 : vcOfI ⟨c25, []⟩ iv25 (parLvs s25.params) 250 Try.f25 s25 = t25 := by kernel_rfl
set_option linter.unusedVariables false in
def p25 (T : Tab) (I : Nat → Env → Env → Prop) (M : Nat → Env → Env → Nat) (pre : Nat → List Int → List (List Int) → Prop) (post : List Int → List (List Int) → Prop) (l0 l1 : List Int) : Prop :=
 ∀ v0 : Int, [v0] = T.outL 71 1 [] [l0, l1] →
 (((!decide ((v0 : Int) = 1)) = true →
  post [0, 0, 1] []) ∧ ((!decide ((v0 : Int) = 1)) = false →
  ((pre 72 [] [l0, l1]) ∧ ((pre 72 [] [l0, l1]) →
  ∀ v1 v2 : Int, [v1, v2] = T.outL 72 2 [] [l0, l1] →
  post [v1, v2, 0] []))))
theorem q25 (T : Tab) (I : Nat → Env → Env → Prop) (M : Nat → Env → Env → Nat) (pre : Nat → List Int → List (List Int) → Prop) (post : List Int → List (List Int) → Prop) (l0 l1 : List Int) : t25.plain T (presG pre I M) post ⟨[], [l0, l1]⟩ = p25 T I M pre post l0 l1 := by kernel_rfl
theorem k25 (T : Tab) (I : Nat → Env → Env → Prop) (M : Nat → Env → Env → Nat) (pre : Nat → List Int → List (List Int) → Prop) (hs : SubSig T c25.sigs) (ht : TotG pre c25.sigs) (hg : T.sig 25 = some s25) (hC : CtAll Try.prog T.fns (presQ pre) c25.sigs) (hk : CpAll Try.prog c25.cps) (hi : ∀ xs ls, allHas (parIvs s25.params) xs → pre 25 xs ls → allHas iv25 xs)
    (h : ∀ (l0 l1 : List Int), allHas iv25 [] → allL (parLvs s25.params) [l0, l1] → pre 25 [] [l0, l1] → p25 T I M pre (fun ys _ => ys = T.app 25 [] [l0, l1]) l0 l1) : CT Try.prog T.fns (presQ pre) 25 s25 :=
  T.ctg (F := ⟨c25, []⟩) (fuel := 250) vc25 Try.checked.mixed hs ht hg hC hk Try.func25 I M (fun xs ls h1 h2 h3 => ⟨hi xs ls h1 h3, h2⟩) fun xs ls hx hl hp => by
    match xs, ls, hx, hl, hp with
    | [], [l0, l1], hx, hl, hp => rw [q25]; exact h l0 l1 hx hl hp
/-- loop.example/g01242/spec.BoundsOf -/
def s17 : Sig := ⟨[.lst [.i8]], [(true, [.i .i64, .i .i64]), (true, [.i .i64, .i .i64]), (false, [.i .i64])], true⟩
noncomputable def c17 : Cfg := ⟨Try.prog, [(61, s61), (62, s62), (63, s63)], [], [], []⟩
def iv17 : List Iv := []
def t17 : VC :=
 (.call 61 (.l (.var 0) .nil) 1
 (.ite (.not (.eq (.var 0) (.lit 1)))
  (.fin (.e (.lit 0) (.e (.lit 0) (.e (.lit 0) (.e (.lit 0) (.e (.lit 1) .nil))))))
  (.ite (.lt (.lit 30) (.len (.var 0)))
   (.fin (.e (.lit 0) (.e (.lit 0) (.e (.lit 0) (.e (.lit 0) (.e (.lit 3) .nil))))))
   (.need [(.pre 62 (.l (.var 0) .nil))]
   (.call 62 (.l (.var 0) .nil) 1
   (.bind (.wrap .i64 (.mul (.lit 1) (.pow2 (.ite (.lt (.len (.var 0)) (.lit 64)) (.len (.var 0)) (.lit 64)))))
   (.need [(.pre 63 (.e (.wrap .i64 (.sub (.var 1) (.lit 1))) (.e (.var 2) .nil)))]
   (.call 63 (.e (.wrap .i64 (.sub (.var 1) (.lit 1))) (.e (.var 2) .nil)) 3
   (.need [(.pre 63 (.e (.wrap .i64 (.add (.var 1) (.lit 1))) (.e (.var 2) .nil)))]
   (.call 63 (.e (.wrap .i64 (.add (.var 1) (.lit 1))) (.e (.var 2) .nil)) 3
   (.fin (.e (.var 3) (.e (.var 4) (.e (.var 6) (.e (.var 7) (.e (.lit 0) .nil))))))))))))))))
theorem vc17 : vcOfI ⟨c17, []⟩ iv17 (parLvs s17.params) 250 Try.f17 s17 = t17 := by kernel_rfl
set_option linter.unusedVariables false in
def p17 (T : Tab) (I : Nat → Env → Env → Prop) (M : Nat → Env → Env → Nat) (pre : Nat → List Int → List (List Int) → Prop) (post : List Int → List (List Int) → Prop) (l0 : List Int) : Prop :=
 ∀ v0 : Int, [v0] = T.outL 61 1 [] [l0] →
 (((!decide ((v0 : Int) = 1)) = true →
  post [0, 0, 0, 0, 1] []) ∧ ((!decide ((v0 : Int) = 1)) = false →
  ((decide ((30 : Int) < (List.length l0 : Int)) = true →
   post [0, 0, 0, 0, 3] []) ∧ (decide ((30 : Int) < (List.length l0 : Int)) = false →
   ((pre 62 [] [l0]) ∧ ((pre 62 [] [l0]) →
   ∀ v1 : Int, [v1] = T.outL 62 1 [] [l0] →
   ∀ v2 : Int, v2 = (IntKind.wrap .i64 (1 * (2 ^ ((if decide (((List.length l0 : Int) : Int) < 64) = true then (List.length l0 : Int) else 64) : Int).toNat))) →
   ((pre 63 [(IntKind.wrap .i64 (v1 - 1)), v2] []) ∧ ((pre 63 [(IntKind.wrap .i64 (v1 - 1)), v2] []) →
   ∀ v3 v4 v5 : Int, [v3, v4, v5] = T.out 63 3 [(IntKind.wrap .i64 (v1 - 1)), v2] →
   ((pre 63 [(IntKind.wrap .i64 (v1 + 1)), v2] []) ∧ ((pre 63 [(IntKind.wrap .i64 (v1 + 1)), v2] []) →
   ∀ v6 v7 v8 : Int, [v6, v7, v8] = T.out 63 3 [(IntKind.wrap .i64 (v1 + 1)), v2] →
   post [v3, v4, v6, v7, 0] []))))))))))
theorem q17 (T : Tab) (I : Nat → Env → Env → Prop) (M : Nat → Env → Env → Nat) (pre : Nat → List Int → List (List Int) → Prop) (post : List Int → List (List Int) → Prop) (l0 : List Int) : t17.plain T (presG pre I M) post ⟨[], [l0]⟩ = p17 T I M pre post l0 := by kernel_rfl
theorem k17 (T : Tab) (I : Nat → Env → Env → Prop) (M : Nat → Env → Env → Nat) (pre : Nat → List Int → List (List Int) → Prop) (hs : SubSig T c17.sigs) (ht : TotG pre c17.sigs) (hg : T.sig 17 = some s17) (hC : CtAll Try.prog T.fns (presQ pre) c17.sigs) (hk : CpAll Try.prog c17.cps) (hi : ∀ xs ls, allHas (parIvs s17.params) xs → pre 17 xs ls → allHas iv17 xs)
    (h : ∀ (l0 : List Int), allHas iv17 [] → allL (parLvs s17.params) [l0] → pre 17 [] [l0] → p17 T I M pre (fun ys _ => ys = T.app 17 [] [l0]) l0) : CT Try.prog T.fns (presQ pre) 17 s17 :=
  T.ctg (F := ⟨c17, []⟩) (fuel := 250) vc17 Try.checked.mixed hs ht hg hC hk Try.func17 I M (fun xs ls h1 h2 h3 => ⟨hi xs ls h1 h3, h2⟩) fun xs ls hx hl hp => by
    match xs, ls, hx, hl, hp with
    | [], [l0], hx, hl, hp => rw [q17]; exact h l0 hx hl hp
/-- loop.example/g01242/impl.BoundsOf -/
def s19 : Sig := ⟨[.lst [.i8]], [(true, [.i .i64, .i .i64]), (true, [.i .i64, .i .i64]), (false, [.i .i64])], true⟩
noncomputable def c19 : Cfg := ⟨Try.prog, [(64, s64), (66, s66), (67, s67)], [], [], []⟩
def iv19 : List Iv := []
def t19 : VC :=
 (.call 64 (.l (.var 0) .nil) 1
 (.ite (.eq (.var 0) (.lit 1))
  (.fin (.e (.lit 0) (.e (.lit 0) (.e (.lit 0) (.e (.lit 0) (.e (.lit 1) .nil))))))
  (.ite (.lt (.lit 30) (.len (.var 0)))
   (.fin (.e (.lit 0) (.e (.lit 0) (.e (.lit 0) (.e (.lit 0) (.e (.lit 3) .nil))))))
   (.need [(.pre 66 (.l (.var 0) .nil))]
   (.call 66 (.l (.var 0) .nil) 1
   (.bind (.wrap .i64 (.mul (.lit 1) (.pow2 (.ite (.lt (.len (.var 0)) (.lit 64)) (.len (.var 0)) (.lit 64)))))
   (.call 67 (.e (.wrap .i64 (.sub (.var 1) (.lit 1))) (.e (.var 2) .nil)) 3
   (.call 67 (.e (.wrap .i64 (.add (.var 1) (.lit 1))) (.e (.var 2) .nil)) 3
   (.fin (.e (.var 3) (.e (.var 4) (.e (.var 6) (.e (.var 7) (.e (.lit 0) .nil))))))))))))))
theorem vc19 : vcOfI ⟨c19, []⟩ iv19 (parLvs s19.params) 250 Try.f19 s19 = t19 := by kernel_rfl
set_option linter.unusedVariables false in
def p19 (T : Tab) (I : Nat → Env → Env → Prop) (M : Nat → Env → Env → Nat) (pre : Nat → List Int → List (List Int) → Prop) (post : List Int → List (List Int) → Prop) (l0 : List Int) : Prop :=
 ∀ v0 : Int, [v0] = T.outL 64 1 [] [l0] →
 ((decide ((v0 : Int) = 1) = true →
  post [0, 0, 0, 0, 1] []) ∧ (decide ((v0 : Int) = 1) = false →
  ((decide ((30 : Int) < (List.length l0 : Int)) = true →
   post [0, 0, 0, 0, 3] []) ∧ (decide ((30 : Int) < (List.length l0 : Int)) = false →
   ((pre 66 [] [l0]) ∧ ((pre 66 [] [l0]) →
   ∀ v1 : Int, [v1] = T.outL 66 1 [] [l0] →
   ∀ v2 : Int, v2 = (IntKind.wrap .i64 (1 * (2 ^ ((if decide (((List.length l0 : Int) : Int) < 64) = true then (List.length l0 : Int) else 64) : Int).toNat))) →
   ∀ v3 v4 v5 : Int, [v3, v4, v5] = T.out 67 3 [(IntKind.wrap .i64 (v1 - 1)), v2] →
   ∀ v6 v7 v8 : Int, [v6, v7, v8] = T.out 67 3 [(IntKind.wrap .i64 (v1 + 1)), v2] →
   post [v3, v4, v6, v7, 0] []))))))
theorem q19 (T : Tab) (I : Nat → Env → Env → Prop) (M : Nat → Env → Env → Nat) (pre : Nat → List Int → List (List Int) → Prop) (post : List Int → List (List Int) → Prop) (l0 : List Int) : t19.plain T (presG pre I M) post ⟨[], [l0]⟩ = p19 T I M pre post l0 := by kernel_rfl
theorem k19 (T : Tab) (I : Nat → Env → Env → Prop) (M : Nat → Env → Env → Nat) (pre : Nat → List Int → List (List Int) → Prop) (hs : SubSig T c19.sigs) (ht : TotG pre c19.sigs) (hg : T.sig 19 = some s19) (hC : CtAll Try.prog T.fns (presQ pre) c19.sigs) (hk : CpAll Try.prog c19.cps) (hi : ∀ xs ls, allHas (parIvs s19.params) xs → pre 19 xs ls → allHas iv19 xs)
    (h : ∀ (l0 : List Int), allHas iv19 [] → allL (parLvs s19.params) [l0] → pre 19 [] [l0] → p19 T I M pre (fun ys _ => ys = T.app 19 [] [l0]) l0) : CT Try.prog T.fns (presQ pre) 19 s19 :=
  T.ctg (F := ⟨c19, []⟩) (fuel := 250) vc19 Try.checked.mixed hs ht hg hC hk Try.func19 I M (fun xs ls h1 h2 h3 => ⟨hi xs ls h1 h3, h2⟩) fun xs ls hx hl hp => by
    match xs, ls, hx, hl, hp with
    | [], [l0], hx, hl, hp => rw [q19]; exact h l0 hx hl hp
/-- loop.example/g01242/spec.CompareStreams -/
def s27 : Sig := ⟨[.lsts [[.i8], [.i8]], .lsts [[.i8], [.i8]]], [(false, [.i .i64]), (false, [.i .i64])], true⟩
noncomputable def c27 : Cfg := ⟨Try.prog, [(69, s69), (70, s70), (73, s73)], [], [], []⟩
def iv27 : List Iv := []
def t27 : VC :=
 (.call 69 (.l (.var 0) (.l (.var 1) .nil)) 1
 (.ite (.eq (.var 0) (.lit 1))
  (.call 69 (.l (.var 2) (.l (.var 3) .nil)) 1
  (.ite (.not (.eq (.var 1) (.lit 1)))
   (.fin (.e (.lit 0) (.e (.lit 1) .nil)))
   (.need [(.pre 70 (.l (.var 0) (.l (.var 1) .nil)))]
   (.call 70 (.l (.var 0) (.l (.var 1) .nil)) 2
   (.need [(.pre 70 (.l (.var 2) (.l (.var 3) .nil)))]
   (.call 70 (.l (.var 2) (.l (.var 3) .nil)) 2
   (.call 73 (.e (.var 2) (.e (.var 3) (.e (.var 4) (.e (.var 5) .nil)))) 1
   (.fin (.e (.var 6) (.e (.lit 0) .nil))))))))))
  (.fin (.e (.lit 0) (.e (.lit 1) .nil)))))
theorem vc27 : vcOfI ⟨c27, []⟩ iv27 (parLvs s27.params) 250 Try.f27 s27 = t27 := by kernel_rfl
set_option linter.unusedVariables false in
def p27 (T : Tab) (I : Nat → Env → Env → Prop) (M : Nat → Env → Env → Nat) (pre : Nat → List Int → List (List Int) → Prop) (post : List Int → List (List Int) → Prop) (l0 l1 l2 l3 : List Int) : Prop :=
 ∀ v0 : Int, [v0] = T.outL 69 1 [] [l0, l1] →
 ((decide ((v0 : Int) = 1) = true →
  ∀ v1 : Int, [v1] = T.outL 69 1 [] [l2, l3] →
  (((!decide ((v1 : Int) = 1)) = true →
   post [0, 1] []) ∧ ((!decide ((v1 : Int) = 1)) = false →
   ((pre 70 [] [l0, l1]) ∧ ((pre 70 [] [l0, l1]) →
   ∀ v2 v3 : Int, [v2, v3] = T.outL 70 2 [] [l0, l1] →
   ((pre 70 [] [l2, l3]) ∧ ((pre 70 [] [l2, l3]) →
   ∀ v4 v5 : Int, [v4, v5] = T.outL 70 2 [] [l2, l3] →
   ∀ v6 : Int, [v6] = T.out 73 1 [v2, v3, v4, v5] →
   post [v6, 0] []))))))) ∧ (decide ((v0 : Int) = 1) = false →
  post [0, 1] []))
theorem q27 (T : Tab) (I : Nat → Env → Env → Prop) (M : Nat → Env → Env → Nat) (pre : Nat → List Int → List (List Int) → Prop) (post : List Int → List (List Int) → Prop) (l0 l1 l2 l3 : List Int) : t27.plain T (presG pre I M) post ⟨[], [l0, l1, l2, l3]⟩ = p27 T I M pre post l0 l1 l2 l3 := by kernel_rfl
theorem k27 (T : Tab) (I : Nat → Env → Env → Prop) (M : Nat → Env → Env → Nat) (pre : Nat → List Int → List (List Int) → Prop) (hs : SubSig T c27.sigs) (ht : TotG pre c27.sigs) (hg : T.sig 27 = some s27) (hC : CtAll Try.prog T.fns (presQ pre) c27.sigs) (hk : CpAll Try.prog c27.cps) (hi : ∀ xs ls, allHas (parIvs s27.params) xs → pre 27 xs ls → allHas iv27 xs)
    (h : ∀ (l0 l1 l2 l3 : List Int), allHas iv27 [] → allL (parLvs s27.params) [l0, l1, l2, l3] → pre 27 [] [l0, l1, l2, l3] → p27 T I M pre (fun ys _ => ys = T.app 27 [] [l0, l1, l2, l3]) l0 l1 l2 l3) : CT Try.prog T.fns (presQ pre) 27 s27 :=
  T.ctg (F := ⟨c27, []⟩) (fuel := 250) vc27 Try.checked.mixed hs ht hg hC hk Try.func27 I M (fun xs ls h1 h2 h3 => ⟨hi xs ls h1 h3, h2⟩) fun xs ls hx hl hp => by
    match xs, ls, hx, hl, hp with
    | [], [l0, l1, l2, l3], hx, hl, hp => rw [q27]; exact h l0 l1 l2 l3 hx hl hp
/-- loop.example/g01242/impl.CompareStreams -/
def s28 : Sig := ⟨[.lsts [[.i8], [.i8]], .lsts [[.i8], [.i8]]], [(false, [.i .i64]), (false, [.i .i64])], true⟩
noncomputable def c28 : Cfg := ⟨Try.prog, [(71, s71), (72, s72), (74, s74)], [], [], []⟩
def iv28 : List Iv := []
def t28 : VC :=
 (.call 71 (.l (.var 0) (.l (.var 1) .nil)) 1
 (.ite (.eq (.var 0) (.lit 1))
  (.call 71 (.l (.var 2) (.l (.var 3) .nil)) 1
  (.ite (.not (.eq (.var 1) (.lit 1)))
   (.fin (.e (.lit 0) (.e (.lit 1) .nil)))
   (.need [(.pre 72 (.l (.var 0) (.l (.var 1) .nil))), (.pre 72 (.l (.var 2) (.l (.var 3) .nil)))]
   (.call 72 (.l (.var 0) (.l (.var 1) .nil)) 2
   (.call 72 (.l (.var 2) (.l (.var 3) .nil)) 2
   (.call 74 (.e (.var 2) (.e (.var 3) (.e (.var 4) (.e (.var 5) .nil)))) 1
   (.fin (.e (.var 6) (.e (.lit 0) .nil)))))))))
  (.fin (.e (.lit 0) (.e (.lit 1) .nil)))))
theorem vc28 : vcOfI ⟨c28, []⟩ iv28 (parLvs s28.params) 250 Try.f28 s28 = t28 := by kernel_rfl
set_option linter.unusedVariables false in
def p28 (T : Tab) (I : Nat → Env → Env → Prop) (M : Nat → Env → Env → Nat) (pre : Nat → List Int → List (List Int) → Prop) (post : List Int → List (List Int) → Prop) (l0 l1 l2 l3 : List Int) : Prop :=
 ∀ v0 : Int, [v0] = T.outL 71 1 [] [l0, l1] →
 ((decide ((v0 : Int) = 1) = true →
  ∀ v1 : Int, [v1] = T.outL 71 1 [] [l2, l3] →
  (((!decide ((v1 : Int) = 1)) = true →
   post [0, 1] []) ∧ ((!decide ((v1 : Int) = 1)) = false →
   ((pre 72 [] [l0, l1] ∧ pre 72 [] [l2, l3]) ∧ ((pre 72 [] [l0, l1] ∧ pre 72 [] [l2, l3]) →
   ∀ v2 v3 : Int, [v2, v3] = T.outL 72 2 [] [l0, l1] →
   ∀ v4 v5 : Int, [v4, v5] = T.outL 72 2 [] [l2, l3] →
   ∀ v6 : Int, [v6] = T.out 74 1 [v2, v3, v4, v5] →
   post [v6, 0] []))))) ∧ (decide ((v0 : Int) = 1) = false →
  post [0, 1] []))
theorem q28 (T : Tab) (I : Nat → Env → Env → Prop) (M : Nat → Env → Env → Nat) (pre : Nat → List Int → List (List Int) → Prop) (post : List Int → List (List Int) → Prop) (l0 l1 l2 l3 : List Int) : t28.plain T (presG pre I M) post ⟨[], [l0, l1, l2, l3]⟩ = p28 T I M pre post l0 l1 l2 l3 := by kernel_rfl
theorem k28 (T : Tab) (I : Nat → Env → Env → Prop) (M : Nat → Env → Env → Nat) (pre : Nat → List Int → List (List Int) → Prop) (hs : SubSig T c28.sigs) (ht : TotG pre c28.sigs) (hg : T.sig 28 = some s28) (hC : CtAll Try.prog T.fns (presQ pre) c28.sigs) (hk : CpAll Try.prog c28.cps) (hi : ∀ xs ls, allHas (parIvs s28.params) xs → pre 28 xs ls → allHas iv28 xs)
    (h : ∀ (l0 l1 l2 l3 : List Int), allHas iv28 [] → allL (parLvs s28.params) [l0, l1, l2, l3] → pre 28 [] [l0, l1, l2, l3] → p28 T I M pre (fun ys _ => ys = T.app 28 [] [l0, l1, l2, l3]) l0 l1 l2 l3) : CT Try.prog T.fns (presQ pre) 28 s28 :=
  T.ctg (F := ⟨c28, []⟩) (fuel := 250) vc28 Try.checked.mixed hs ht hg hC hk Try.func28 I M (fun xs ls h1 h2 h3 => ⟨hi xs ls h1 h3, h2⟩) fun xs ls hx hl hp => by
    match xs, ls, hx, hl, hp with
    | [], [l0, l1, l2, l3], hx, hl, hp => rw [q28]; exact h l0 l1 l2 l3 hx hl hp
/-- loop.example/g01242/spec.l04Terms -/
def s75 : Sig := ⟨[.lst [.i64]], [(false, [.b])], true⟩
noncomputable def c75 : Cfg := ⟨Try.prog, [(82, s82)], [], [], []⟩
def iv75 : List Iv := []
def t75 : VC :=
 (.bind (.len (.var 0))
 (.ite (.le (.lit 1) (.var 0))
  (.ite (.lt (.lit 40) (.var 0))
   (.fin (.e (.lit 0) .nil))
   (.loop 1 [(.lit 0)] [] [⟨(-9223372036854775808), 9223372036854775807⟩] []
    (.ite (.lt (.var 1) (.var 0))
     (.need [(.b (.le (.lit 0) (.var 1))), (.b (.lt (.var 1) (.len (.var 0))))]
     (.need [(.b (.lt (.add (.lit 0) (.var 1)) (.len (.var 0))))]
     (.bind (.at (.var 0) (.add (.lit 0) (.var 1)))
     (.call 82 (.e (.var 2) .nil) 1
     (.ite (.le (.var 3) (.lit 1000000000))
      (.need [(.b (.le (.lit 0) (.var 1))), (.b (.lt (.var 1) (.len (.var 0))))]
      (.need [(.b (.lt (.add (.lit 0) (.var 1)) (.len (.var 0))))]
      (.bind (.at (.var 0) (.add (.lit 0) (.var 1)))
      (.ite (.le (.lit (-1000000000)) (.var 4))
       (.ite (.lt (.lit 0) (.var 1))
        (.need [(.b (.lt (.var 1) (.len (.var 0))))]
        (.need [(.b (.lt (.add (.lit 0) (.var 1)) (.len (.var 0))))]
        (.bind (.at (.var 0) (.add (.lit 0) (.var 1)))
        (.ite (.lt (.var 5) (.lit 1))
         (.fin (.e (.lit 0) .nil))
         (.bind (.wrap .i64 (.add (.var 1) (.lit 1)))
         (.again 1 1 1 [⟨(-9223372036854775808), 9223372036854775807⟩] [(.var 6)] []))))))
        (.again 1 1 1 [⟨(-9223372036854775808), 9223372036854775807⟩] [(.add (.var 1) (.lit 1))] []))
       (.fin (.e (.lit 0) .nil))))))
      (.fin (.e (.lit 0) .nil)))))))
     (.ite (.not (.eq (.var 0) (.lit 1)))
      (.need [(.b (.lt (.sub (.var 0) (.lit 1)) (.len (.var 0))))]
      (.need [(.b (.lt (.add (.lit 0) (.sub (.var 0) (.lit 1))) (.len (.var 0))))]
      (.bind (.at (.var 0) (.add (.lit 0) (.sub (.var 0) (.lit 1))))
      (.fin (.e (.ite (.le (.lit 2) (.var 2)) (.lit 1) (.lit 0)) .nil)))))
      (.fin (.e (.lit 1) .nil))))))
  (.fin (.e (.lit 0) .nil))))
theorem vc75 : vcOfI ⟨c75, [(5, ⟨1, [4], [], [13, 14, 15, 18, 19, 20, 21, 22, 23, 24, 25, 26, 27, 28, 29, 30, 31, 32, 33, 34, 35, 36, 37, 38, 39, 40, 41, 2, 16, 17, 48], [⟨(-9223372036854775808), 9223372036854775807⟩], [], []⟩)]⟩ iv75 (parLvs s75.params) 250 Try.f75 s75 = t75 := by kernel_rfl
set_option linter.unusedVariables false in
def p75 (T : Tab) (I : Nat → Env → Env → Prop) (M : Nat → Env → Env → Nat) (pre : Nat → List Int → List (List Int) → Prop) (post : List Int → List (List Int) → Prop) (l0 : List Int) : Prop :=
 ∀ v0 : Int, v0 = (List.length l0 : Int) →
 ((decide ((1 : Int) ≤ v0) = true →
  ((decide ((40 : Int) < v0) = true →
   post [0] []) ∧ (decide ((40 : Int) < v0) = false →
   ((allHas [⟨(-9223372036854775808), 9223372036854775807⟩] [0] ∧ I 1 ⟨[v0], [l0]⟩ ⟨[0], []⟩) ∧ ∀ v1 : Int, allHas [⟨(-9223372036854775808), 9223372036854775807⟩] [v1] → I 1 ⟨[v0], [l0]⟩ ⟨[v1], []⟩ →
    ((decide ((v1 : Int) < v0) = true →
     ((decide ((0 : Int) ≤ v1) = true ∧ decide ((v1 : Int) < (List.length l0 : Int)) = true) ∧ ((decide ((0 : Int) ≤ v1) = true ∧ decide ((v1 : Int) < (List.length l0 : Int)) = true) →
     ((decide (((0 + v1) : Int) < (List.length l0 : Int)) = true) ∧ ((decide (((0 + v1) : Int) < (List.length l0 : Int)) = true) →
     ∀ v2 : Int, v2 = (List.getD l0 (Int.toNat (0 + v1)) 0) →
     ∀ v3 : Int, [v3] = T.out 82 1 [v2] →
     ((decide ((v3 : Int) ≤ 1000000000) = true →
      ((decide ((0 : Int) ≤ v1) = true ∧ decide ((v1 : Int) < (List.length l0 : Int)) = true) ∧ ((decide ((0 : Int) ≤ v1) = true ∧ decide ((v1 : Int) < (List.length l0 : Int)) = true) →
      ((decide (((0 + v1) : Int) < (List.length l0 : Int)) = true) ∧ ((decide (((0 + v1) : Int) < (List.length l0 : Int)) = true) →
      ∀ v4 : Int, v4 = (List.getD l0 (Int.toNat (0 + v1)) 0) →
      ((decide (((-1000000000) : Int) ≤ v4) = true →
       ((decide ((0 : Int) < v1) = true →
        ((decide ((v1 : Int) < (List.length l0 : Int)) = true) ∧ ((decide ((v1 : Int) < (List.length l0 : Int)) = true) →
        ((decide (((0 + v1) : Int) < (List.length l0 : Int)) = true) ∧ ((decide (((0 + v1) : Int) < (List.length l0 : Int)) = true) →
        ∀ v5 : Int, v5 = (List.getD l0 (Int.toNat (0 + v1)) 0) →
        ((decide ((v5 : Int) < 1) = true →
         post [0] []) ∧ (decide ((v5 : Int) < 1) = false →
         ∀ v6 : Int, v6 = (IntKind.wrap .i64 (v1 + 1)) →
         (allHas [⟨(-9223372036854775808), 9223372036854775807⟩] [v6] ∧ I 1 ⟨[v0], [l0]⟩ ⟨[v6], []⟩ ∧ M 1 ⟨[v0], [l0]⟩ ⟨[v6], []⟩ < M 1 ⟨[v0], [l0]⟩ ⟨[v1], []⟩)))))))) ∧ (decide ((0 : Int) < v1) = false →
        (allHas [⟨(-9223372036854775808), 9223372036854775807⟩] [(v1 + 1)] ∧ I 1 ⟨[v0], [l0]⟩ ⟨[(v1 + 1)], []⟩ ∧ M 1 ⟨[v0], [l0]⟩ ⟨[(v1 + 1)], []⟩ < M 1 ⟨[v0], [l0]⟩ ⟨[v1], []⟩)))) ∧ (decide (((-1000000000) : Int) ≤ v4) = false →
       post [0] []))))))) ∧ (decide ((v3 : Int) ≤ 1000000000) = false →
      post [0] []))))))) ∧ (decide ((v1 : Int) < v0) = false →
     (((!decide ((v0 : Int) = 1)) = true →
      ((decide (((v0 - 1) : Int) < (List.length l0 : Int)) = true) ∧ ((decide (((v0 - 1) : Int) < (List.length l0 : Int)) = true) →
      ((decide (((0 + (v0 - 1)) : Int) < (List.length l0 : Int)) = true) ∧ ((decide (((0 + (v0 - 1)) : Int) < (List.length l0 : Int)) = true) →
      ∀ v2 : Int, v2 = (List.getD l0 (Int.toNat (0 + (v0 - 1))) 0) →
      post [(if decide ((2 : Int) ≤ v2) = true then 1 else 0)] []))))) ∧ ((!decide ((v0 : Int) = 1)) = false →
      post [1] [])))))))) ∧ (decide ((1 : Int) ≤ v0) = false →
  post [0] []))
theorem q75 (T : Tab) (I : Nat → Env → Env → Prop) (M : Nat → Env → Env → Nat) (pre : Nat → List Int → List (List Int) → Prop) (post : List Int → List (List Int) → Prop) (l0 : List Int) : t75.plain T (presG pre I M) post ⟨[], [l0]⟩ = p75 T I M pre post l0 := by kernel_rfl
theorem k75 (T : Tab) (I : Nat → Env → Env → Prop) (M : Nat → Env → Env → Nat) (pre : Nat → List Int → List (List Int) → Prop) (hs : SubSig T c75.sigs) (ht : TotG pre c75.sigs) (hg : T.sig 75 = some s75) (hC : CtAll Try.prog T.fns (presQ pre) c75.sigs) (hk : CpAll Try.prog c75.cps) (hi : ∀ xs ls, allHas (parIvs s75.params) xs → pre 75 xs ls → allHas iv75 xs)
    (h : ∀ (l0 : List Int), allHas iv75 [] → allL (parLvs s75.params) [l0] → pre 75 [] [l0] → p75 T I M pre (fun ys _ => ys = T.app 75 [] [l0]) l0) : CT Try.prog T.fns (presQ pre) 75 s75 :=
  T.ctg (F := ⟨c75, [(5, ⟨1, [4], [], [13, 14, 15, 18, 19, 20, 21, 22, 23, 24, 25, 26, 27, 28, 29, 30, 31, 32, 33, 34, 35, 36, 37, 38, 39, 40, 41, 2, 16, 17, 48], [⟨(-9223372036854775808), 9223372036854775807⟩], [], []⟩)]⟩) (fuel := 250) vc75 Try.checked.mixed hs ht hg hC hk Try.func75 I M (fun xs ls h1 h2 h3 => ⟨hi xs ls h1 h3, h2⟩) fun xs ls hx hl hp => by
    match xs, ls, hx, hl, hp with
    | [], [l0], hx, hl, hp => rw [q75]; exact h l0 hx hl hp
/-- loop.example/g01242/spec.ValidTerms -/
def s29 : Sig := ⟨[.lst [.i64]], [(false, [.b])], true⟩
noncomputable def c29 : Cfg := ⟨Try.prog, [(75, s75)], [], [], []⟩
def iv29 : List Iv := []
def t29 : VC :=
 (.call 75 (.l (.var 0) .nil) 1
 (.fin (.e (.var 0) .nil)))
theorem vc29 : vcOfI ⟨c29, []⟩ iv29 (parLvs s29.params) 250 Try.f29 s29 = t29 := by kernel_rfl
set_option linter.unusedVariables false in
def p29 (T : Tab) (I : Nat → Env → Env → Prop) (M : Nat → Env → Env → Nat) (pre : Nat → List Int → List (List Int) → Prop) (post : List Int → List (List Int) → Prop) (l0 : List Int) : Prop :=
 ∀ v0 : Int, [v0] = T.outL 75 1 [] [l0] →
 post [v0] []
theorem q29 (T : Tab) (I : Nat → Env → Env → Prop) (M : Nat → Env → Env → Nat) (pre : Nat → List Int → List (List Int) → Prop) (post : List Int → List (List Int) → Prop) (l0 : List Int) : t29.plain T (presG pre I M) post ⟨[], [l0]⟩ = p29 T I M pre post l0 := by kernel_rfl
theorem k29 (T : Tab) (I : Nat → Env → Env → Prop) (M : Nat → Env → Env → Nat) (pre : Nat → List Int → List (List Int) → Prop) (hs : SubSig T c29.sigs) (ht : TotG pre c29.sigs) (hg : T.sig 29 = some s29) (hC : CtAll Try.prog T.fns (presQ pre) c29.sigs) (hk : CpAll Try.prog c29.cps) (hi : ∀ xs ls, allHas (parIvs s29.params) xs → pre 29 xs ls → allHas iv29 xs)
    (h : ∀ (l0 : List Int), allHas iv29 [] → allL (parLvs s29.params) [l0] → pre 29 [] [l0] → p29 T I M pre (fun ys _ => ys = T.app 29 [] [l0]) l0) : CT Try.prog T.fns (presQ pre) 29 s29 :=
  T.ctg (F := ⟨c29, []⟩) (fuel := 250) vc29 Try.checked.mixed hs ht hg hC hk Try.func29 I M (fun xs ls h1 h2 h3 => ⟨hi xs ls h1 h3, h2⟩) fun xs ls hx hl hp => by
    match xs, ls, hx, hl, hp with
    | [], [l0], hx, hl, hp => rw [q29]; exact h l0 hx hl hp
/-- loop.example/g01242/impl.ValidTerms -/
def s31 : Sig := ⟨[.lst [.i64]], [(false, [.b])], true⟩
noncomputable def c31 : Cfg := ⟨Try.prog, [(76, s76)], [], [], []⟩
def iv31 : List Iv := []
def t31 : VC :=
 (.ite (.le (.lit 1) (.len (.var 0)))
  (.ite (.lt (.lit 40) (.len (.var 0)))
   (.fin (.e (.lit 0) .nil))
   (.loop 1 [(.lit 0)] [] [⟨(-9223372036854775808), 9223372036854775807⟩] []
    (.ite (.lt (.var 0) (.len (.var 0)))
     (.need [(.b (.le (.lit 0) (.var 0))), (.b (.lt (.var 0) (.len (.var 0))))]
     (.need [(.b (.lt (.add (.lit 0) (.var 0)) (.len (.var 0))))]
     (.bind (.at (.var 0) (.add (.lit 0) (.var 0)))
     (.call 76 (.e (.var 1) (.e (.lit 1000000000) .nil)) 1
     (.ite (.eq (.var 2) (.lit 1))
      (.ite (.lt (.lit 0) (.var 0))
       (.ite (.lt (.var 1) (.lit 1))
        (.fin (.e (.lit 0) .nil))
        (.again 1 0 1 [⟨(-9223372036854775808), 9223372036854775807⟩] [(.wrap .i64 (.add (.var 0) (.lit 1)))] []))
       (.again 1 0 1 [⟨(-9223372036854775808), 9223372036854775807⟩] [(.add (.var 0) (.lit 1))] []))
      (.fin (.e (.lit 0) .nil)))))))
     (.ite (.not (.eq (.len (.var 0)) (.lit 1)))
      (.need [(.b (.le (.lit 0) (.sub (.len (.var 0)) (.lit 1)))), (.b (.lt (.sub (.len (.var 0)) (.lit 1)) (.len (.var 0))))]
      (.need [(.b (.lt (.add (.lit 0) (.sub (.len (.var 0)) (.lit 1))) (.len (.var 0))))]
      (.bind (.at (.var 0) (.add (.lit 0) (.sub (.len (.var 0)) (.lit 1))))
      (.fin (.e (.ite (.le (.lit 2) (.var 1)) (.lit 1) (.lit 0)) .nil)))))
      (.fin (.e (.lit 1) .nil))))))
  (.fin (.e (.lit 0) .nil)))
theorem vc31 : vcOfI ⟨c31, [(4, ⟨1, [15], [], [16, 17, 18, 19, 3, 4, 20, 21, 22, 23, 24, 25, 26, 27, 28, 29, 30, 2, 31, 40], [⟨(-9223372036854775808), 9223372036854775807⟩], [], []⟩)]⟩ iv31 (parLvs s31.params) 250 Try.f31 s31 = t31 := by kernel_rfl
set_option linter.unusedVariables false in
def p31 (T : Tab) (I : Nat → Env → Env → Prop) (M : Nat → Env → Env → Nat) (pre : Nat → List Int → List (List Int) → Prop) (post : List Int → List (List Int) → Prop) (l0 : List Int) : Prop :=
 ((decide ((1 : Int) ≤ (List.length l0 : Int)) = true →
  ((decide ((40 : Int) < (List.length l0 : Int)) = true →
   post [0] []) ∧ (decide ((40 : Int) < (List.length l0 : Int)) = false →
   ((allHas [⟨(-9223372036854775808), 9223372036854775807⟩] [0] ∧ I 1 ⟨[], [l0]⟩ ⟨[0], []⟩) ∧ ∀ v0 : Int, allHas [⟨(-9223372036854775808), 9223372036854775807⟩] [v0] → I 1 ⟨[], [l0]⟩ ⟨[v0], []⟩ →
    ((decide ((v0 : Int) < (List.length l0 : Int)) = true →
     ((decide ((0 : Int) ≤ v0) = true ∧ decide ((v0 : Int) < (List.length l0 : Int)) = true) ∧ ((decide ((0 : Int) ≤ v0) = true ∧ decide ((v0 : Int) < (List.length l0 : Int)) = true) →
     ((decide (((0 + v0) : Int) < (List.length l0 : Int)) = true) ∧ ((decide (((0 + v0) : Int) < (List.length l0 : Int)) = true) →
     ∀ v1 : Int, v1 = (List.getD l0 (Int.toNat (0 + v0)) 0) →
     ∀ v2 : Int, [v2] = T.out 76 1 [v1, 1000000000] →
     ((decide ((v2 : Int) = 1) = true →
      ((decide ((0 : Int) < v0) = true →
       ((decide ((v1 : Int) < 1) = true →
        post [0] []) ∧ (decide ((v1 : Int) < 1) = false →
        (allHas [⟨(-9223372036854775808), 9223372036854775807⟩] [(IntKind.wrap .i64 (v0 + 1))] ∧ I 1 ⟨[], [l0]⟩ ⟨[(IntKind.wrap .i64 (v0 + 1))], []⟩ ∧ M 1 ⟨[], [l0]⟩ ⟨[(IntKind.wrap .i64 (v0 + 1))], []⟩ < M 1 ⟨[], [l0]⟩ ⟨[v0], []⟩)))) ∧ (decide ((0 : Int) < v0) = false →
       (allHas [⟨(-9223372036854775808), 9223372036854775807⟩] [(v0 + 1)] ∧ I 1 ⟨[], [l0]⟩ ⟨[(v0 + 1)], []⟩ ∧ M 1 ⟨[], [l0]⟩ ⟨[(v0 + 1)], []⟩ < M 1 ⟨[], [l0]⟩ ⟨[v0], []⟩)))) ∧ (decide ((v2 : Int) = 1) = false →
      post [0] []))))))) ∧ (decide ((v0 : Int) < (List.length l0 : Int)) = false →
     (((!decide (((List.length l0 : Int) : Int) = 1)) = true →
      ((decide ((0 : Int) ≤ ((List.length l0 : Int) - 1)) = true ∧ decide ((((List.length l0 : Int) - 1) : Int) < (List.length l0 : Int)) = true) ∧ ((decide ((0 : Int) ≤ ((List.length l0 : Int) - 1)) = true ∧ decide ((((List.length l0 : Int) - 1) : Int) < (List.length l0 : Int)) = true) →
      ((decide (((0 + ((List.length l0 : Int) - 1)) : Int) < (List.length l0 : Int)) = true) ∧ ((decide (((0 + ((List.length l0 : Int) - 1)) : Int) < (List.length l0 : Int)) = true) →
      ∀ v1 : Int, v1 = (List.getD l0 (Int.toNat (0 + ((List.length l0 : Int) - 1))) 0) →
      post [(if decide ((2 : Int) ≤ v1) = true then 1 else 0)] []))))) ∧ ((!decide (((List.length l0 : Int) : Int) = 1)) = false →
      post [1] [])))))))) ∧ (decide ((1 : Int) ≤ (List.length l0 : Int)) = false →
  post [0] []))
theorem q31 (T : Tab) (I : Nat → Env → Env → Prop) (M : Nat → Env → Env → Nat) (pre : Nat → List Int → List (List Int) → Prop) (post : List Int → List (List Int) → Prop) (l0 : List Int) : t31.plain T (presG pre I M) post ⟨[], [l0]⟩ = p31 T I M pre post l0 := by kernel_rfl
theorem k31 (T : Tab) (I : Nat → Env → Env → Prop) (M : Nat → Env → Env → Nat) (pre : Nat → List Int → List (List Int) → Prop) (hs : SubSig T c31.sigs) (ht : TotG pre c31.sigs) (hg : T.sig 31 = some s31) (hC : CtAll Try.prog T.fns (presQ pre) c31.sigs) (hk : CpAll Try.prog c31.cps) (hi : ∀ xs ls, allHas (parIvs s31.params) xs → pre 31 xs ls → allHas iv31 xs)
    (h : ∀ (l0 : List Int), allHas iv31 [] → allL (parLvs s31.params) [l0] → pre 31 [] [l0] → p31 T I M pre (fun ys _ => ys = T.app 31 [] [l0]) l0) : CT Try.prog T.fns (presQ pre) 31 s31 :=
  T.ctg (F := ⟨c31, [(4, ⟨1, [15], [], [16, 17, 18, 19, 3, 4, 20, 21, 22, 23, 24, 25, 26, 27, 28, 29, 30, 2, 31, 40], [⟨(-9223372036854775808), 9223372036854775807⟩], [], []⟩)]⟩) (fuel := 250) vc31 Try.checked.mixed hs ht hg hC hk Try.func31 I M (fun xs ls h1 h2 h3 => ⟨hi xs ls h1 h3, h2⟩) fun xs ls hx hl hp => by
    match xs, ls, hx, hl, hp with
    | [], [l0], hx, hl, hp => rw [q31]; exact h l0 hx hl hp
/-- loop.example/g01242/spec.l04Compare -/
def s77 : Sig := ⟨[.lst [.i64], .lst [.i64]], [(false, [.i .i64])], true⟩
noncomputable def c77 : Cfg := ⟨Try.prog, [], [], [], []⟩
def iv77 : List Iv := []
def t77 : VC :=
 (.loop 1 [(.lit 0)] [] [⟨(-9223372036854775808), 9223372036854775807⟩] []
  (.bind (.ite (.eq (.tmod (.var 0) (.lit 2)) (.lit 1)) (.lit (-1)) (.lit 1))
  (.ite (.eq (.var 0) (.len (.var 0)))
   (.ite (.eq (.var 0) (.len (.var 1)))
    (.fin (.e (.lit 0) .nil))
    (.fin (.e (.var 1) .nil)))
   (.ite (.eq (.var 0) (.len (.var 1)))
    (.bind (.sub (.lit 0) (.var 1))
    (.fin (.e (.var 2) .nil)))
    (.need [(.b (.le (.lit 0) (.var 0))), (.b (.lt (.var 0) (.len (.var 0)))), (.b (.lt (.add (.lit 0) (.var 0)) (.len (.var 0)))), (.b (.le (.lit 0) (.var 0))), (.b (.lt (.var 0) (.len (.var 1)))), (.b (.lt (.add (.lit 0) (.var 0)) (.len (.var 1))))]
    (.bind (.at (.var 0) (.add (.lit 0) (.var 0)))
    (.bind (.at (.var 1) (.add (.lit 0) (.var 0)))
    (.ite (.lt (.at (.var 1) (.add (.lit 0) (.var 0))) (.at (.var 0) (.add (.lit 0) (.var 0))))
     (.fin (.e (.var 1) .nil))
     (.need [(.b (.le (.lit 0) (.var 0))), (.b (.lt (.var 0) (.len (.var 0)))), (.b (.lt (.add (.lit 0) (.var 0)) (.len (.var 0)))), (.b (.le (.lit 0) (.var 0))), (.b (.lt (.var 0) (.len (.var 1)))), (.b (.lt (.add (.lit 0) (.var 0)) (.len (.var 1))))]
     (.bind (.at (.var 0) (.add (.lit 0) (.var 0)))
     (.bind (.at (.var 1) (.add (.lit 0) (.var 0)))
     (.ite (.lt (.at (.var 0) (.add (.lit 0) (.var 0))) (.at (.var 1) (.add (.lit 0) (.var 0))))
      (.bind (.sub (.lit 0) (.var 1))
      (.fin (.e (.var 6) .nil)))
      (.bind (.wrap .i64 (.add (.var 0) (.lit 1)))
      (.again 1 0 2 [⟨(-9223372036854775808), 9223372036854775807⟩] [(.var 6)] []))))))))))))))
theorem vc77 : vcOfI ⟨c77, [(3, ⟨1, [5], [], [6, 9, 10, 11, 12, 13, 14, 15, 16, 17, 18, 19, 20, 21, 4, 22, 23, 24, 25, 26, 27, 28, 29, 30, 31, 32, 33, 34, 35, 36, 37, 38, 39, 40, 41, 42, 43, 44, 45, 46, 47, 48, 49, 50, 51, 52, 53, 7, 8], [⟨(-9223372036854775808), 9223372036854775807⟩], [], []⟩)]⟩ iv77 (parLvs s77.params) 250 Try.f77 s77 = t77 := by kernel_rfl
set_option linter.unusedVariables false in
def p77 (T : Tab) (I : Nat → Env → Env → Prop) (M : Nat → Env → Env → Nat) (pre : Nat → List Int → List (List Int) → Prop) (post : List Int → List (List Int) → Prop) (l0 l1 : List Int) : Prop :=
 ((allHas [⟨(-9223372036854775808), 9223372036854775807⟩] [0] ∧ I 1 ⟨[], [l0, l1]⟩ ⟨[0], []⟩) ∧ ∀ v0 : Int, allHas [⟨(-9223372036854775808), 9223372036854775807⟩] [v0] → I 1 ⟨[], [l0, l1]⟩ ⟨[v0], []⟩ →
  ∀ v1 : Int, v1 = (if decide (((Int.tmod v0 2) : Int) = 1) = true then (-1) else 1) →
  ((decide ((v0 : Int) = (List.length l0 : Int)) = true →
   ((decide ((v0 : Int) = (List.length l1 : Int)) = true →
    post [0] []) ∧ (decide ((v0 : Int) = (List.length l1 : Int)) = false →
    post [v1] []))) ∧ (decide ((v0 : Int) = (List.length l0 : Int)) = false →
   ((decide ((v0 : Int) = (List.length l1 : Int)) = true →
    ∀ v2 : Int, v2 = (0 - v1) →
    post [v2] []) ∧ (decide ((v0 : Int) = (List.length l1 : Int)) = false →
    ((decide ((0 : Int) ≤ v0) = true ∧ decide ((v0 : Int) < (List.length l0 : Int)) = true ∧ decide (((0 + v0) : Int) < (List.length l0 : Int)) = true ∧ decide ((0 : Int) ≤ v0) = true ∧ decide ((v0 : Int) < (List.length l1 : Int)) = true ∧ decide (((0 + v0) : Int) < (List.length l1 : Int)) = true) ∧ ((decide ((0 : Int) ≤ v0) = true ∧ decide ((v0 : Int) < (List.length l0 : Int)) = true ∧ decide (((0 + v0) : Int) < (List.length l0 : Int)) = true ∧ decide ((0 : Int) ≤ v0) = true ∧ decide ((v0 : Int) < (List.length l1 : Int)) = true ∧ decide (((0 + v0) : Int) < (List.length l1 : Int)) = true) →
    ∀ v2 : Int, v2 = (List.getD l0 (Int.toNat (0 + v0)) 0) →
    ∀ v3 : Int, v3 = (List.getD l1 (Int.toNat (0 + v0)) 0) →
    ((decide (((List.getD l1 (Int.toNat (0 + v0)) 0) : Int) < (List.getD l0 (Int.toNat (0 + v0)) 0)) = true →
     post [v1] []) ∧ (decide (((List.getD l1 (Int.toNat (0 + v0)) 0) : Int) < (List.getD l0 (Int.toNat (0 + v0)) 0)) = false →
     ((decide ((0 : Int) ≤ v0) = true ∧ decide ((v0 : Int) < (List.length l0 : Int)) = true ∧ decide (((0 + v0) : Int) < (List.length l0 : Int)) = true ∧ decide ((0 : Int) ≤ v0) = true ∧ decide ((v0 : Int) < (List.length l1 : Int)) = true ∧ decide (((0 + v0) : Int) < (List.length l1 : Int)) = true) ∧ ((decide ((0 : Int) ≤ v0) = true ∧ decide ((v0 : Int) < (List.length l0 : Int)) = true ∧ decide (((0 + v0) : Int) < (List.length l0 : Int)) = true ∧ decide ((0 : Int) ≤ v0) = true ∧ decide ((v0 : Int) < (List.length l1 : Int)) = true ∧ decide (((0 + v0) : Int) < (List.length l1 : Int)) = true) →
     ∀ v4 : Int, v4 = (List.getD l0 (Int.toNat (0 + v0)) 0) →
     ∀ v5 : Int, v5 = (List.getD l1 (Int.toNat (0 + v0)) 0) →
     ((decide (((List.getD l0 (Int.toNat (0 + v0)) 0) : Int) < (List.getD l1 (Int.toNat (0 + v0)) 0)) = true →
      ∀ v6 : Int, v6 = (0 - v1) →
      post [v6] []) ∧ (decide (((List.getD l0 (Int.toNat (0 + v0)) 0) : Int) < (List.getD l1 (Int.toNat (0 + v0)) 0)) = false →
      ∀ v6 : Int, v6 = (IntKind.wrap .i64 (v0 + 1)) →
      (allHas [⟨(-9223372036854775808), 9223372036854775807⟩] [v6] ∧ I 1 ⟨[], [l0, l1]⟩ ⟨[v6], []⟩ ∧ M 1 ⟨[], [l0, l1]⟩ ⟨[v6], []⟩ < M 1 ⟨[], [l0, l1]⟩ ⟨[v0], []⟩))))))))))))))
theorem q77 (T : Tab) (I : Nat → Env → Env → Prop) (M : Nat → Env → Env → Nat) (pre : Nat → List Int → List (List Int) → Prop) (post : List Int → List (List Int) → Prop) (l0 l1 : List Int) : t77.plain T (presG pre I M) post ⟨[], [l0, l1]⟩ = p77 T I M pre post l0 l1 := by kernel_rfl
theorem k77 (T : Tab) (I : Nat → Env → Env → Prop) (M : Nat → Env → Env → Nat) (pre : Nat → List Int → List (List Int) → Prop) (hs : SubSig T c77.sigs) (ht : TotG pre c77.sigs) (hg : T.sig 77 = some s77) (hC : CtAll Try.prog T.fns (presQ pre) c77.sigs) (hk : CpAll Try.prog c77.cps) (hi : ∀ xs ls, allHas (parIvs s77.params) xs → pre 77 xs ls → allHas iv77 xs)
    (h : ∀ (l0 l1 : List Int), allHas iv77 [] → allL (parLvs s77.params) [l0, l1] → pre 77 [] [l0, l1] → p77 T I M pre (fun ys _ => ys = T.app 77 [] [l0, l1]) l0 l1) : CT Try.prog T.fns (presQ pre) 77 s77 :=
  T.ctg (F := ⟨c77, [(3, ⟨1, [5], [], [6, 9, 10, 11, 12, 13, 14, 15, 16, 17, 18, 19, 20, 21, 4, 22, 23, 24, 25, 26, 27, 28, 29, 30, 31, 32, 33, 34, 35, 36, 37, 38, 39, 40, 41, 42, 43, 44, 45, 46, 47, 48, 49, 50, 51, 52, 53, 7, 8], [⟨(-9223372036854775808), 9223372036854775807⟩], [], []⟩)]⟩) (fuel := 250) vc77 Try.checked.mixed hs ht hg hC hk Try.func77 I M (fun xs ls h1 h2 h3 => ⟨hi xs ls h1 h3, h2⟩) fun xs ls hx hl hp => by
    match xs, ls, hx, hl, hp with
    | [], [l0, l1], hx, hl, hp => rw [q77]; exact h l0 l1 hx hl hp
/-- loop.example/g01242/spec.CompareTerms -/
def s33 : Sig := ⟨[.lst [.i64], .lst [.i64]], [(false, [.i .i64]), (false, [.i .i64])], true⟩
noncomputable def c33 : Cfg := ⟨Try.prog, [(75, s75), (77, s77)], [], [], []⟩
def iv33 : List Iv := []
def t33 : VC :=
 (.call 75 (.l (.var 0) .nil) 1
 (.ite (.eq (.var 0) (.lit 1))
  (.call 75 (.l (.var 1) .nil) 1
  (.ite (.not (.eq (.var 1) (.lit 1)))
   (.fin (.e (.lit 0) (.e (.lit 1) .nil)))
   (.call 77 (.l (.var 0) (.l (.var 1) .nil)) 1
   (.fin (.e (.var 2) (.e (.lit 0) .nil))))))
  (.fin (.e (.lit 0) (.e (.lit 1) .nil)))))
theorem vc33 : vcOfI ⟨c33, []⟩ iv33 (parLvs s33.params) 250 Try.f33 s33 = t33 := by kernel_rfl
set_option linter.unusedVariables false in
def p33 (T : Tab) (I : Nat → Env → Env → Prop) (M : Nat → Env → Env → Nat) (pre : Nat → List Int → List (List Int) → Prop) (post : List Int → List (List Int) → Prop) (l0 l1 : List Int) : Prop :=
 ∀ v0 : Int, [v0] = T.outL 75 1 [] [l0] →
 ((decide ((v0 : Int) = 1) = true →
  ∀ v1 : Int, [v1] = T.outL 75 1 [] [l1] →
  (((!decide ((v1 : Int) = 1)) = true →
   post [0, 1] []) ∧ ((!decide ((v1 : Int) = 1)) = false →
   ∀ v2 : Int, [v2] = T.outL 77 1 [] [l0, l1] →
   post [v2, 0] []))) ∧ (decide ((v0 : Int) = 1) = false →
  post [0, 1] []))
theorem q33 (T : Tab) (I : Nat → Env → Env → Prop) (M : Nat → Env → Env → Nat) (pre : Nat → List Int → List (List Int) → Prop) (post : List Int → List (List Int) → Prop) (l0 l1 : List Int) : t33.plain T (presG pre I M) post ⟨[], [l0, l1]⟩ = p33 T I M pre post l0 l1 := by kernel_rfl
theorem k33 (T : Tab) (I : Nat → Env → Env → Prop) (M : Nat → Env → Env → Nat) (pre : Nat → List Int → List (List Int) → Prop) (hs : SubSig T c33.sigs) (ht : TotG pre c33.sigs) (hg : T.sig 33 = some s33) (hC : CtAll Try.prog T.fns (presQ pre) c33.sigs) (hk : CpAll Try.prog c33.cps) (hi : ∀ xs ls, allHas (parIvs s33.params) xs → pre 33 xs ls → allHas iv33 xs)
    (h : ∀ (l0 l1 : List Int), allHas iv33 [] → allL (parLvs s33.params) [l0, l1] → pre 33 [] [l0, l1] → p33 T I M pre (fun ys _ => ys = T.app 33 [] [l0, l1]) l0 l1) : CT Try.prog T.fns (presQ pre) 33 s33 :=
  T.ctg (F := ⟨c33, []⟩) (fuel := 250) vc33 Try.checked.mixed hs ht hg hC hk Try.func33 I M (fun xs ls h1 h2 h3 => ⟨hi xs ls h1 h3, h2⟩) fun xs ls hx hl hp => by
    match xs, ls, hx, hl, hp with
    | [], [l0, l1], hx, hl, hp => rw [q33]; exact h l0 l1 hx hl hp
/-- loop.example/g01242/impl.termOrEnd -/
def s79 : Sig := ⟨[.lst [.i64], .val false [.i .i64]], [(false, [.i .i64])], false⟩
noncomputable def c79 : Cfg := ⟨Try.prog, [], [], [], []⟩
def iv79 : List Iv := [⟨(-9223372036854775808), 9223372036854775807⟩]
def t79 : VC :=
 (.ite (.lt (.var 0) (.len (.var 0)))
  (.need [(.b (.le (.lit 0) (.var 0))), (.b (.lt (.var 0) (.len (.var 0))))]
  (.need [(.b (.lt (.add (.lit 0) (.var 0)) (.len (.var 0))))]
  (.bind (.at (.var 0) (.add (.lit 0) (.var 0)))
  (.fin (.e (.var 1) .nil)))))
  (.fin (.e (.lit 9223372036854775807) .nil)))
theorem vc79 : vcOfI ⟨c79, []⟩ iv79 (parLvs s79.params) 250 Try.f79 s79 = t79 := by kernel_rfl
set_option linter.unusedVariables false in
def p79 (T : Tab) (I : Nat → Env → Env → Prop) (M : Nat → Env → Env → Nat) (pre : Nat → List Int → List (List Int) → Prop) (post : List Int → List (List Int) → Prop) (v0 : Int) (l0 : List Int) : Prop :=
 ((decide ((v0 : Int) < (List.length l0 : Int)) = true →
  ((decide ((0 : Int) ≤ v0) = true ∧ decide ((v0 : Int) < (List.length l0 : Int)) = true) ∧ ((decide ((0 : Int) ≤ v0) = true ∧ decide ((v0 : Int) < (List.length l0 : Int)) = true) →
  ((decide (((0 + v0) : Int) < (List.length l0 : Int)) = true) ∧ ((decide (((0 + v0) : Int) < (List.length l0 : Int)) = true) →
  ∀ v1 : Int, v1 = (List.getD l0 (Int.toNat (0 + v0)) 0) →
  post [v1] []))))) ∧ (decide ((v0 : Int) < (List.length l0 : Int)) = false →
  post [9223372036854775807] []))
theorem q79 (T : Tab) (I : Nat → Env → Env → Prop) (M : Nat → Env → Env → Nat) (pre : Nat → List Int → List (List Int) → Prop) (post : List Int → List (List Int) → Prop) (v0 : Int) (l0 : List Int) : t79.plain T (presG pre I M) post ⟨[v0], [l0]⟩ = p79 T I M pre post v0 l0 := by kernel_rfl
theorem k79 (T : Tab) (I : Nat → Env → Env → Prop) (M : Nat → Env → Env → Nat) (pre : Nat → List Int → List (List Int) → Prop) (hs : SubSig T c79.sigs) (ht : TotG pre c79.sigs) (hg : T.sig 79 = some s79) (hC : CtAll Try.prog T.fns (presQ pre) c79.sigs) (hk : CpAll Try.prog c79.cps) (hi : ∀ xs ls, allHas (parIvs s79.params) xs → pre 79 xs ls → allHas iv79 xs)
    (h : ∀ (v0 : Int) (l0 : List Int), allHas iv79 [v0] → allL (parLvs s79.params) [l0] → pre 79 [v0] [l0] → p79 T I M pre (fun ys _ => ys = T.app 79 [v0] [l0]) v0 l0) : CT Try.prog T.fns (presQ pre) 79 s79 :=
  T.ctg (F := ⟨c79, []⟩) (fuel := 250) vc79 Try.checked.mixed hs ht hg hC hk Try.func79 I M (fun xs ls h1 h2 h3 => ⟨hi xs ls h1 h3, h2⟩) fun xs ls hx hl hp => by
    match xs, ls, hx, hl, hp with
    | [v0], [l0], hx, hl, hp => rw [q79]; exact h v0 l0 hx hl hp
/-- loop.example/g01242/impl.CompareTerms -/
def s34 : Sig := ⟨[.lst [.i64], .lst [.i64]], [(false, [.i .i64]), (false, [.i .i64])], true⟩
noncomputable def c34 : Cfg := ⟨Try.prog, [(31, s31), (79, s79), (78, s78)], [], [], []⟩
def iv34 : List Iv := []
def t34 : VC :=
 (.call 31 (.l (.var 0) .nil) 1
 (.ite (.eq (.var 0) (.lit 1))
  (.call 31 (.l (.var 1) .nil) 1
  (.ite (.not (.eq (.var 1) (.lit 1)))
   (.fin (.e (.lit 0) (.e (.lit 1) .nil)))
   (.loop 1 [(.lit 0)] [] [⟨(-9223372036854775808), 9223372036854775807⟩] []
    (.ite (.lt (.var 2) (.ite (.lt (.len (.var 0)) (.len (.var 1))) (.len (.var 1)) (.len (.var 0))))
     (.need [(.pre 79 (.l (.var 0) (.e (.var 2) .nil)))]
     (.call 79 (.l (.var 0) (.e (.var 2) .nil)) 1
     (.need [(.pre 79 (.l (.var 1) (.e (.var 2) .nil)))]
     (.call 79 (.l (.var 1) (.e (.var 2) .nil)) 1
     (.call 78 (.e (.var 3) (.e (.var 4) .nil)) 1
     (.ite (.not (.eq (.var 5) (.lit 0)))
      (.ite (.eq (.tmod (.var 2) (.lit 2)) (.lit 1))
       (.bind (.sub (.lit 0) (.var 5))
       (.fin (.e (.var 6) (.e (.lit 0) .nil))))
       (.fin (.e (.var 5) (.e (.lit 0) .nil))))
      (.again 1 2 2 [⟨(-9223372036854775808), 9223372036854775807⟩] [(.wrap .i64 (.add (.var 2) (.lit 1)))] [])))))))
     (.fin (.e (.lit 0) (.e (.lit 0) .nil)))))))
  (.fin (.e (.lit 0) (.e (.lit 1) .nil)))))
theorem vc34 : vcOfI ⟨c34, [(4, ⟨1, [21], [], [22, 23, 6, 24, 25, 26, 27, 28, 29, 30, 7, 31, 32, 33, 34, 35, 36, 37, 38, 39, 4, 5, 40, 41, 42, 43], [⟨(-9223372036854775808), 9223372036854775807⟩], [], []⟩)]⟩ iv34 (parLvs s34.params) 250 Try.f34 s34 = t34 := by kernel_rfl
set_option linter.unusedVariables false in
def p34 (T : Tab) (I : Nat → Env → Env → Prop) (M : Nat → Env → Env → Nat) (pre : Nat → List Int → List (List Int) → Prop) (post : List Int → List (List Int) → Prop) (l0 l1 : List Int) : Prop :=
 ∀ v0 : Int, [v0] = T.outL 31 1 [] [l0] →
 ((decide ((v0 : Int) = 1) = true →
  ∀ v1 : Int, [v1] = T.outL 31 1 [] [l1] →
  (((!decide ((v1 : Int) = 1)) = true →
   post [0, 1] []) ∧ ((!decide ((v1 : Int) = 1)) = false →
   ((allHas [⟨(-9223372036854775808), 9223372036854775807⟩] [0] ∧ I 1 ⟨[v0, v1], [l0, l1]⟩ ⟨[0], []⟩) ∧ ∀ v2 : Int, allHas [⟨(-9223372036854775808), 9223372036854775807⟩] [v2] → I 1 ⟨[v0, v1], [l0, l1]⟩ ⟨[v2], []⟩ →
    ((decide ((v2 : Int) < (if decide (((List.length l0 : Int) : Int) < (List.length l1 : Int)) = true then (List.length l1 : Int) else (List.length l0 : Int))) = true →
     ((pre 79 [v2] [l0]) ∧ ((pre 79 [v2] [l0]) →
     ∀ v3 : Int, [v3] = T.outL 79 1 [v2] [l0] →
     ((pre 79 [v2] [l1]) ∧ ((pre 79 [v2] [l1]) →
     ∀ v4 : Int, [v4] = T.outL 79 1 [v2] [l1] →
     ∀ v5 : Int, [v5] = T.out 78 1 [v3, v4] →
     (((!decide ((v5 : Int) = 0)) = true →
      ((decide (((Int.tmod v2 2) : Int) = 1) = true →
       ∀ v6 : Int, v6 = (0 - v5) →
       post [v6, 0] []) ∧ (decide (((Int.tmod v2 2) : Int) = 1) = false →
       post [v5, 0] []))) ∧ ((!decide ((v5 : Int) = 0)) = false →
      (allHas [⟨(-9223372036854775808), 9223372036854775807⟩] [(IntKind.wrap .i64 (v2 + 1))] ∧ I 1 ⟨[v0, v1], [l0, l1]⟩ ⟨[(IntKind.wrap .i64 (v2 + 1))], []⟩ ∧ M 1 ⟨[v0, v1], [l0, l1]⟩ ⟨[(IntKind.wrap .i64 (v2 + 1))], []⟩ < M 1 ⟨[v0, v1], [l0, l1]⟩ ⟨[v2], []⟩)))))))) ∧ (decide ((v2 : Int) < (if decide (((List.length l0 : Int) : Int) < (List.length l1 : Int)) = true then (List.length l1 : Int) else (List.length l0 : Int))) = false →
     post [0, 0] [])))))) ∧ (decide ((v0 : Int) = 1) = false →
  post [0, 1] []))
theorem q34 (T : Tab) (I : Nat → Env → Env → Prop) (M : Nat → Env → Env → Nat) (pre : Nat → List Int → List (List Int) → Prop) (post : List Int → List (List Int) → Prop) (l0 l1 : List Int) : t34.plain T (presG pre I M) post ⟨[], [l0, l1]⟩ = p34 T I M pre post l0 l1 := by kernel_rfl
theorem k34 (T : Tab) (I : Nat → Env → Env → Prop) (M : Nat → Env → Env → Nat) (pre : Nat → List Int → List (List Int) → Prop) (hs : SubSig T c34.sigs) (ht : TotG pre c34.sigs) (hg : T.sig 34 = some s34) (hC : CtAll Try.prog T.fns (presQ pre) c34.sigs) (hk : CpAll Try.prog c34.cps) (hi : ∀ xs ls, allHas (parIvs s34.params) xs → pre 34 xs ls → allHas iv34 xs)
    (h : ∀ (l0 l1 : List Int), allHas iv34 [] → allL (parLvs s34.params) [l0, l1] → pre 34 [] [l0, l1] → p34 T I M pre (fun ys _ => ys = T.app 34 [] [l0, l1]) l0 l1) : CT Try.prog T.fns (presQ pre) 34 s34 :=
  T.ctg (F := ⟨c34, [(4, ⟨1, [21], [], [22, 23, 6, 24, 25, 26, 27, 28, 29, 30, 7, 31, 32, 33, 34, 35, 36, 37, 38, 39, 4, 5, 40, 41, 42, 43], [⟨(-9223372036854775808), 9223372036854775807⟩], [], []⟩)]⟩) (fuel := 250) vc34 Try.checked.mixed hs ht hg hC hk Try.func34 I M (fun xs ls h1 h2 h3 => ⟨hi xs ls h1 h3, h2⟩) fun xs ls hx hl hp => by
    match xs, ls, hx, hl, hp with
    | [], [l0, l1], hx, hl, hp => rw [q34]; exact h l0 l1 hx hl hp
/-- loop.example/g01242/laws.FnExactBoundsOf -/
def s3 : Sig := ⟨[.lst [.i8]], [(false, [.b])], true⟩
noncomputable def c3 : Cfg := ⟨Try.prog, [(17, s17), (19, s19), (20, s20), (21, s21)], [(18, s18, y18)], [], []⟩
def iv3 : List Iv := []
def t3 : VC :=
 (.ite (.lt (.lit 1048576) (.len (.var 0)))
  (.fin (.e (.lit 1) .nil))
  (.need [(.b (.le (.len (.var 0)) (.lit 1099511627776)))]
  (.call 17 (.l (.var 0) .nil) 5
  (.need [(.b (.le (.len (.var 0)) (.lit 1099511627776)))]
  (.call 19 (.l (.var 0) .nil) 5
  (.call 20 (.e (.var 5) (.e (.var 6) (.e (.var 0) (.e (.var 1) .nil)))) 1
  (.ite (.eq (.var 10) (.lit 1))
   (.call 20 (.e (.var 7) (.e (.var 8) (.e (.var 2) (.e (.var 3) .nil)))) 1
   (.ite (.eq (.var 11) (.lit 1))
    (.ite (.not (.eq (.var 9) (.var 4)))
     (.fin (.e (.lit 0) .nil))
     (.need [(.b (.le (.len (.var 0)) (.lit 1099511627776)))]
     (.call 21 (.l (.var 0) (.l (.var 0) .nil)) 1
     (.ite (.not (.eq (.var 12) (.lit 1)))
      (.fin (.e (.lit 0) .nil))
      (.fin (.e (.lit 1) .nil))))))
    (.fin (.e (.lit 0) .nil))))
   (.fin (.e (.lit 0) .nil)))))))))
theorem vc3 : vcOfI ⟨c3, []⟩ iv3 (parLvs s3.params) 250 Try.f3 s3 = t3 := by kernel_rfl
set_option linter.unusedVariables false in
def p3 (T : Tab) (I : Nat → Env → Env → Prop) (M : Nat → Env → Env → Nat) (pre : Nat → List Int → List (List Int) → Prop) (post : List Int → List (List Int) → Prop) (l0 : List Int) : Prop :=
 ((decide ((1048576 : Int) < (List.length l0 : Int)) = true →
  post [1] []) ∧ (decide ((1048576 : Int) < (List.length l0 : Int)) = false →
  ((decide (((List.length l0 : Int) : Int) ≤ 1099511627776) = true) ∧ ((decide (((List.length l0 : Int) : Int) ≤ 1099511627776) = true) →
  ∀ v0 v1 v2 v3 v4 : Int, [v0, v1, v2, v3, v4] = T.outL 17 5 [] [l0] →
  ((decide (((List.length l0 : Int) : Int) ≤ 1099511627776) = true) ∧ ((decide (((List.length l0 : Int) : Int) ≤ 1099511627776) = true) →
  ∀ v5 v6 v7 v8 v9 : Int, [v5, v6, v7, v8, v9] = T.outL 19 5 [] [l0] →
  ∀ v10 : Int, [v10] = T.out 20 1 [v5, v6, v0, v1] →
  ((decide ((v10 : Int) = 1) = true →
   ∀ v11 : Int, [v11] = T.out 20 1 [v7, v8, v2, v3] →
   ((decide ((v11 : Int) = 1) = true →
    (((!decide ((v9 : Int) = v4)) = true →
     post [0] []) ∧ ((!decide ((v9 : Int) = v4)) = false →
     ((decide (((List.length l0 : Int) : Int) ≤ 1099511627776) = true) ∧ ((decide (((List.length l0 : Int) : Int) ≤ 1099511627776) = true) →
     ∀ v12 : Int, [v12] = T.outL 21 1 [] [l0, l0] →
     (((!decide ((v12 : Int) = 1)) = true →
      post [0] []) ∧ ((!decide ((v12 : Int) = 1)) = false →
      post [1] []))))))) ∧ (decide ((v11 : Int) = 1) = false →
    post [0] []))) ∧ (decide ((v10 : Int) = 1) = false →
   post [0] []))))))))
theorem q3 (T : Tab) (I : Nat → Env → Env → Prop) (M : Nat → Env → Env → Nat) (pre : Nat → List Int → List (List Int) → Prop) (post : List Int → List (List Int) → Prop) (l0 : List Int) : t3.plain T (presG pre I M) post ⟨[], [l0]⟩ = p3 T I M pre post l0 := by kernel_rfl
theorem k3 (T : Tab) (I : Nat → Env → Env → Prop) (M : Nat → Env → Env → Nat) (pre : Nat → List Int → List (List Int) → Prop) (hs : SubSig T c3.sigs) (ht : TotG pre c3.sigs) (hg : T.sig 3 = some s3) (hC : CtAll Try.prog T.fns (presQ pre) c3.sigs) (hk : CpAll Try.prog c3.cps) (hi : ∀ xs ls, allHas (parIvs s3.params) xs → pre 3 xs ls → allHas iv3 xs)
    (h : ∀ (l0 : List Int), allHas iv3 [] → allL (parLvs s3.params) [l0] → pre 3 [] [l0] → p3 T I M pre (fun ys _ => ys = T.app 3 [] [l0]) l0) : CT Try.prog T.fns (presQ pre) 3 s3 :=
  T.ctg (F := ⟨c3, []⟩) (fuel := 250) vc3 Try.checked.mixed hs ht hg hC hk Try.func3 I M (fun xs ls h1 h2 h3 => ⟨hi xs ls h1 h3, h2⟩) fun xs ls hx hl hp => by
    match xs, ls, hx, hl, hp with
    | [], [l0], hx, hl, hp => rw [q3]; exact h l0 hx hl hp
/-- loop.example/g01242/laws.FnExactValueOf -/
def s4 : Sig := ⟨[.lsts [[.i8], [.i8]]], [(false, [.b])], true⟩
noncomputable def c4 : Cfg := ⟨Try.prog, [(22, s22), (23, s23), (25, s25), (20, s20), (26, s26)], [(24, s24, y24)], [], []⟩
def iv4 : List Iv := []
def t4 : VC :=
 (.call 22 (.l (.var 0) (.l (.var 1) (.e (.lit 1048576) .nil))) 1
 (.ite (.lt (.var 0) (.lit 0))
  (.fin (.e (.lit 1) .nil))
  (.need [(.b (.le (.len (.var 0)) (.lit 1099511627776))), (.b (.le (.len (.var 1)) (.lit 1099511627776)))]
  (.call 23 (.l (.var 0) (.l (.var 1) .nil)) 3
  (.need [(.b (.le (.len (.var 0)) (.lit 1099511627776))), (.b (.le (.len (.var 1)) (.lit 1099511627776)))]
  (.call 25 (.l (.var 0) (.l (.var 1) .nil)) 3
  (.call 20 (.e (.var 4) (.e (.var 5) (.e (.var 1) (.e (.var 2) .nil)))) 1
  (.ite (.eq (.var 7) (.lit 1))
   (.ite (.not (.eq (.var 6) (.var 3)))
    (.fin (.e (.lit 0) .nil))
    (.need [(.b (.le (.len (.var 0)) (.lit 1099511627776))), (.b (.le (.len (.var 1)) (.lit 1099511627776)))]
    (.call 26 (.l (.var 0) (.l (.var 1) (.l (.var 0) (.l (.var 1) .nil)))) 1
    (.ite (.not (.eq (.var 8) (.lit 1)))
     (.fin (.e (.lit 0) .nil))
     (.fin (.e (.lit 1) .nil))))))
   (.fin (.e (.lit 0) .nil))))))))))
theorem vc4 : vcOfI ⟨c4, []⟩ iv4 (parLvs s4.params) 250 Try.f4 s4 = t4 := by kernel_rfl
set_option linter.unusedVariables false in
def p4 (T : Tab) (I : Nat → Env → Env → Prop) (M : Nat → Env → Env → Nat) (pre : Nat → List Int → List (List Int) → Prop) (post : List Int → List (List Int) → Prop) (l0 l1 : List Int) : Prop :=
 ∀ v0 : Int, [v0] = T.outL 22 1 [1048576] [l0, l1] →
 ((decide ((v0 : Int) < 0) = true →
  post [1] []) ∧ (decide ((v0 : Int) < 0) = false →
  ((decide (((List.length l0 : Int) : Int) ≤ 1099511627776) = true ∧ decide (((List.length l1 : Int) : Int) ≤ 1099511627776) = true) ∧ ((decide (((List.length l0 : Int) : Int) ≤ 1099511627776) = true ∧ decide (((List.length l1 : Int) : Int) ≤ 1099511627776) = true) →
  ∀ v1 v2 v3 : Int, [v1, v2, v3] = T.outL 23 3 [] [l0, l1] →
  ((decide (((List.length l0 : Int) : Int) ≤ 1099511627776) = true ∧ decide (((List.length l1 : Int) : Int) ≤ 1099511627776) = true) ∧ ((decide (((List.length l0 : Int) : Int) ≤ 1099511627776) = true ∧ decide (((List.length l1 : Int) : Int) ≤ 1099511627776) = true) →
  ∀ v4 v5 v6 : Int, [v4, v5, v6] = T.outL 25 3 [] [l0, l1] →
  ∀ v7 : Int, [v7] = T.out 20 1 [v4, v5, v1, v2] →
  ((decide ((v7 : Int) = 1) = true →
   (((!decide ((v6 : Int) = v3)) = true →
    post [0] []) ∧ ((!decide ((v6 : Int) = v3)) = false →
    ((decide (((List.length l0 : Int) : Int) ≤ 1099511627776) = true ∧ decide (((List.length l1 : Int) : Int) ≤ 1099511627776) = true) ∧ ((decide (((List.length l0 : Int) : Int) ≤ 1099511627776) = true ∧ decide (((List.length l1 : Int) : Int) ≤ 1099511627776) = true) →
    ∀ v8 : Int, [v8] = T.outL 26 1 [] [l0, l1, l0, l1] →
    (((!decide ((v8 : Int) = 1)) = true →
     post [0] []) ∧ ((!decide ((v8 : Int) = 1)) = false →
     post [1] []))))))) ∧ (decide ((v7 : Int) = 1) = false →
   post [0] []))))))))
theorem q4 (T : Tab) (I : Nat → Env → Env → Prop) (M : Nat → Env → Env → Nat) (pre : Nat → List Int → List (List Int) → Prop) (post : List Int → List (List Int) → Prop) (l0 l1 : List Int) : t4.plain T (presG pre I M) post ⟨[], [l0, l1]⟩ = p4 T I M pre post l0 l1 := by kernel_rfl
theorem k4 (T : Tab) (I : Nat → Env → Env → Prop) (M : Nat → Env → Env → Nat) (pre : Nat → List Int → List (List Int) → Prop) (hs : SubSig T c4.sigs) (ht : TotG pre c4.sigs) (hg : T.sig 4 = some s4) (hC : CtAll Try.prog T.fns (presQ pre) c4.sigs) (hk : CpAll Try.prog c4.cps) (hi : ∀ xs ls, allHas (parIvs s4.params) xs → pre 4 xs ls → allHas iv4 xs)
    (h : ∀ (l0 l1 : List Int), allHas iv4 [] → allL (parLvs s4.params) [l0, l1] → pre 4 [] [l0, l1] → p4 T I M pre (fun ys _ => ys = T.app 4 [] [l0, l1]) l0 l1) : CT Try.prog T.fns (presQ pre) 4 s4 :=
  T.ctg (F := ⟨c4, []⟩) (fuel := 250) vc4 Try.checked.mixed hs ht hg hC hk Try.func4 I M (fun xs ls h1 h2 h3 => ⟨hi xs ls h1 h3, h2⟩) fun xs ls hx hl hp => by
    match xs, ls, hx, hl, hp with
    | [], [l0, l1], hx, hl, hp => rw [q4]; exact h l0 l1 hx hl hp
/-- loop.example/g01242/laws.FnExactCompareStreams -/
def s5 : Sig := ⟨[.lsts [[.i8], [.i8]], .lsts [[.i8], [.i8]]], [(false, [.b])], true⟩
noncomputable def c5 : Cfg := ⟨Try.prog, [(22, s22), (27, s27), (28, s28), (26, s26)], [(24, s24, y24)], [], []⟩
def iv5 : List Iv := []
def t5 : VC :=
 (.call 22 (.l (.var 0) (.l (.var 1) (.e (.lit 1048576) .nil))) 1
 (.ite (.lt (.var 0) (.lit 0))
  (.fin (.e (.lit 1) .nil))
  (.call 22 (.l (.var 2) (.l (.var 3) (.e (.var 0) .nil))) 1
  (.ite (.lt (.var 1) (.lit 0))
   (.fin (.e (.lit 1) .nil))
   (.need [(.b (.le (.len (.var 0)) (.lit 1099511627776))), (.b (.le (.len (.var 1)) (.lit 1099511627776))), (.b (.le (.len (.var 2)) (.lit 1099511627776))), (.b (.le (.len (.var 3)) (.lit 1099511627776)))]
   (.call 27 (.l (.var 0) (.l (.var 1) (.l (.var 2) (.l (.var 3) .nil)))) 2
   (.need [(.b (.le (.len (.var 0)) (.lit 1099511627776))), (.b (.le (.len (.var 1)) (.lit 1099511627776)))]
   (.need [(.b (.le (.len (.var 2)) (.lit 1099511627776))), (.b (.le (.len (.var 3)) (.lit 1099511627776)))]
   (.call 28 (.l (.var 0) (.l (.var 1) (.l (.var 2) (.l (.var 3) .nil)))) 2
   (.ite (.eq (.var 4) (.var 2))
    (.ite (.not (.eq (.var 5) (.var 3)))
     (.fin (.e (.lit 0) .nil))
     (.need [(.b (.le (.len (.var 0)) (.lit 1099511627776))), (.b (.le (.len (.var 1)) (.lit 1099511627776)))]
     (.call 26 (.l (.var 0) (.l (.var 1) (.l (.var 0) (.l (.var 1) .nil)))) 1
     (.ite (.not (.eq (.var 6) (.lit 1)))
      (.fin (.e (.lit 0) .nil))
      (.need [(.b (.le (.len (.var 2)) (.lit 1099511627776))), (.b (.le (.len (.var 3)) (.lit 1099511627776)))]
      (.call 26 (.l (.var 2) (.l (.var 3) (.l (.var 2) (.l (.var 3) .nil)))) 1
      (.ite (.not (.eq (.var 7) (.lit 1)))
       (.fin (.e (.lit 0) .nil))
       (.fin (.e (.lit 1) .nil)))))))))
    (.fin (.e (.lit 0) .nil))))))))))))
theorem vc5 : vcOfI ⟨c5, []⟩ iv5 (parLvs s5.params) 250 Try.f5 s5 = t5 := by kernel_rfl
set_option linter.unusedVariables false in
def p5 (T : Tab) (I : Nat → Env → Env → Prop) (M : Nat → Env → Env → Nat) (pre : Nat → List Int → List (List Int) → Prop) (post : List Int → List (List Int) → Prop) (l0 l1 l2 l3 : List Int) : Prop :=
 ∀ v0 : Int, [v0] = T.outL 22 1 [1048576] [l0, l1] →
 ((decide ((v0 : Int) < 0) = true →
  post [1] []) ∧ (decide ((v0 : Int) < 0) = false →
  ∀ v1 : Int, [v1] = T.outL 22 1 [v0] [l2, l3] →
  ((decide ((v1 : Int) < 0) = true →
   post [1] []) ∧ (decide ((v1 : Int) < 0) = false →
   ((decide (((List.length l0 : Int) : Int) ≤ 1099511627776) = true ∧ decide (((List.length l1 : Int) : Int) ≤ 1099511627776) = true ∧ decide (((List.length l2 : Int) : Int) ≤ 1099511627776) = true ∧ decide (((List.length l3 : Int) : Int) ≤ 1099511627776) = true) ∧ ((decide (((List.length l0 : Int) : Int) ≤ 1099511627776) = true ∧ decide (((List.length l1 : Int) : Int) ≤ 1099511627776) = true ∧ decide (((List.length l2 : Int) : Int) ≤ 1099511627776) = true ∧ decide (((List.length l3 : Int) : Int) ≤ 1099511627776) = true) →
   ∀ v2 v3 : Int, [v2, v3] = T.outL 27 2 [] [l0, l1, l2, l3] →
   ((decide (((List.length l0 : Int) : Int) ≤ 1099511627776) = true ∧ decide (((List.length l1 : Int) : Int) ≤ 1099511627776) = true) ∧ ((decide (((List.length l0 : Int) : Int) ≤ 1099511627776) = true ∧ decide (((List.length l1 : Int) : Int) ≤ 1099511627776) = true) →
   ((decide (((List.length l2 : Int) : Int) ≤ 1099511627776) = true ∧ decide (((List.length l3 : Int) : Int) ≤ 1099511627776) = true) ∧ ((decide (((List.length l2 : Int) : Int) ≤ 1099511627776) = true ∧ decide (((List.length l3 : Int) : Int) ≤ 1099511627776) = true) →
   ∀ v4 v5 : Int, [v4, v5] = T.outL 28 2 [] [l0, l1, l2, l3] →
   ((decide ((v4 : Int) = v2) = true →
    (((!decide ((v5 : Int) = v3)) = true →
     post [0] []) ∧ ((!decide ((v5 : Int) = v3)) = false →
     ((decide (((List.length l0 : Int) : Int) ≤ 1099511627776) = true ∧ decide (((List.length l1 : Int) : Int) ≤ 1099511627776) = true) ∧ ((decide (((List.length l0 : Int) : Int) ≤ 1099511627776) = true ∧ decide (((List.length l1 : Int) : Int) ≤ 1099511627776) = true) →
     ∀ v6 : Int, [v6] = T.outL 26 1 [] [l0, l1, l0, l1] →
     (((!decide ((v6 : Int) = 1)) = true →
      post [0] []) ∧ ((!decide ((v6 : Int) = 1)) = false →
      ((decide (((List.length l2 : Int) : Int) ≤ 1099511627776) = true ∧ decide (((List.length l3 : Int) : Int) ≤ 1099511627776) = true) ∧ ((decide (((List.length l2 : Int) : Int) ≤ 1099511627776) = true ∧ decide (((List.length l3 : Int) : Int) ≤ 1099511627776) = true) →
      ∀ v7 : Int, [v7] = T.outL 26 1 [] [l2, l3, l2, l3] →
      (((!decide ((v7 : Int) = 1)) = true →
       post [0] []) ∧ ((!decide ((v7 : Int) = 1)) = false →
       post [1] []))))))))))) ∧ (decide ((v4 : Int) = v2) = false →
    post [0] []))))))))))))
theorem q5 (T : Tab) (I : Nat → Env → Env → Prop) (M : Nat → Env → Env → Nat) (pre : Nat → List Int → List (List Int) → Prop) (post : List Int → List (List Int) → Prop) (l0 l1 l2 l3 : List Int) : t5.plain T (presG pre I M) post ⟨[], [l0, l1, l2, l3]⟩ = p5 T I M pre post l0 l1 l2 l3 := by kernel_rfl
theorem k5 (T : Tab) (I : Nat → Env → Env → Prop) (M : Nat → Env → Env → Nat) (pre : Nat → List Int → List (List Int) → Prop) (hs : SubSig T c5.sigs) (ht : TotG pre c5.sigs) (hg : T.sig 5 = some s5) (hC : CtAll Try.prog T.fns (presQ pre) c5.sigs) (hk : CpAll Try.prog c5.cps) (hi : ∀ xs ls, allHas (parIvs s5.params) xs → pre 5 xs ls → allHas iv5 xs)
    (h : ∀ (l0 l1 l2 l3 : List Int), allHas iv5 [] → allL (parLvs s5.params) [l0, l1, l2, l3] → pre 5 [] [l0, l1, l2, l3] → p5 T I M pre (fun ys _ => ys = T.app 5 [] [l0, l1, l2, l3]) l0 l1 l2 l3) : CT Try.prog T.fns (presQ pre) 5 s5 :=
  T.ctg (F := ⟨c5, []⟩) (fuel := 250) vc5 Try.checked.mixed hs ht hg hC hk Try.func5 I M (fun xs ls h1 h2 h3 => ⟨hi xs ls h1 h3, h2⟩) fun xs ls hx hl hp => by
    match xs, ls, hx, hl, hp with
    | [], [l0, l1, l2, l3], hx, hl, hp => rw [q5]; exact h l0 l1 l2 l3 hx hl hp
/-- loop.example/g01242/laws.FnExactValidTerms -/
def s6 : Sig := ⟨[.lst [.i64]], [(false, [.b])], true⟩
noncomputable def c6 : Cfg := ⟨Try.prog, [(29, s29), (31, s31), (32, s32)], [(30, s30, y30)], [], []⟩
def iv6 : List Iv := []
def t6 : VC :=
 (.ite (.lt (.lit 1048576) (.len (.var 0)))
  (.fin (.e (.lit 1) .nil))
  (.need [(.b (.le (.len (.var 0)) (.lit 1099511627776)))]
  (.call 29 (.l (.var 0) .nil) 1
  (.need [(.b (.le (.len (.var 0)) (.lit 1099511627776)))]
  (.call 31 (.l (.var 0) .nil) 1
  (.ite (.not (.beq (.eq (.var 1) (.lit 1)) (.eq (.var 0) (.lit 1))))
   (.fin (.e (.lit 0) .nil))
   (.need [(.b (.le (.len (.var 0)) (.lit 1099511627776)))]
   (.call 32 (.l (.var 0) (.l (.var 0) .nil)) 1
   (.ite (.not (.eq (.var 2) (.lit 1)))
    (.fin (.e (.lit 0) .nil))
    (.fin (.e (.lit 1) .nil)))))))))))
theorem vc6 : vcOfI ⟨c6, []⟩ iv6 (parLvs s6.params) 250 Try.f6 s6 = t6 := by kernel_rfl
set_option linter.unusedVariables false in
def p6 (T : Tab) (I : Nat → Env → Env → Prop) (M : Nat → Env → Env → Nat) (pre : Nat → List Int → List (List Int) → Prop) (post : List Int → List (List Int) → Prop) (l0 : List Int) : Prop :=
 ((decide ((1048576 : Int) < (List.length l0 : Int)) = true →
  post [1] []) ∧ (decide ((1048576 : Int) < (List.length l0 : Int)) = false →
  ((decide (((List.length l0 : Int) : Int) ≤ 1099511627776) = true) ∧ ((decide (((List.length l0 : Int) : Int) ≤ 1099511627776) = true) →
  ∀ v0 : Int, [v0] = T.outL 29 1 [] [l0] →
  ((decide (((List.length l0 : Int) : Int) ≤ 1099511627776) = true) ∧ ((decide (((List.length l0 : Int) : Int) ≤ 1099511627776) = true) →
  ∀ v1 : Int, [v1] = T.outL 31 1 [] [l0] →
  (((!(decide ((v1 : Int) = 1) == decide ((v0 : Int) = 1))) = true →
   post [0] []) ∧ ((!(decide ((v1 : Int) = 1) == decide ((v0 : Int) = 1))) = false →
   ((decide (((List.length l0 : Int) : Int) ≤ 1099511627776) = true) ∧ ((decide (((List.length l0 : Int) : Int) ≤ 1099511627776) = true) →
   ∀ v2 : Int, [v2] = T.outL 32 1 [] [l0, l0] →
   (((!decide ((v2 : Int) = 1)) = true →
    post [0] []) ∧ ((!decide ((v2 : Int) = 1)) = false →
    post [1] []))))))))))))
theorem q6 (T : Tab) (I : Nat → Env → Env → Prop) (M : Nat → Env → Env → Nat) (pre : Nat → List Int → List (List Int) → Prop) (post : List Int → List (List Int) → Prop) (l0 : List Int) : t6.plain T (presG pre I M) post ⟨[], [l0]⟩ = p6 T I M pre post l0 := by kernel_rfl
theorem k6 (T : Tab) (I : Nat → Env → Env → Prop) (M : Nat → Env → Env → Nat) (pre : Nat → List Int → List (List Int) → Prop) (hs : SubSig T c6.sigs) (ht : TotG pre c6.sigs) (hg : T.sig 6 = some s6) (hC : CtAll Try.prog T.fns (presQ pre) c6.sigs) (hk : CpAll Try.prog c6.cps) (hi : ∀ xs ls, allHas (parIvs s6.params) xs → pre 6 xs ls → allHas iv6 xs)
    (h : ∀ (l0 : List Int), allHas iv6 [] → allL (parLvs s6.params) [l0] → pre 6 [] [l0] → p6 T I M pre (fun ys _ => ys = T.app 6 [] [l0]) l0) : CT Try.prog T.fns (presQ pre) 6 s6 :=
  T.ctg (F := ⟨c6, []⟩) (fuel := 250) vc6 Try.checked.mixed hs ht hg hC hk Try.func6 I M (fun xs ls h1 h2 h3 => ⟨hi xs ls h1 h3, h2⟩) fun xs ls hx hl hp => by
    match xs, ls, hx, hl, hp with
    | [], [l0], hx, hl, hp => rw [q6]; exact h l0 hx hl hp
/-- loop.example/g01242/laws.FnExactCompareTerms -/
def s7 : Sig := ⟨[.lst [.i64], .lst [.i64]], [(false, [.b])], true⟩
noncomputable def c7 : Cfg := ⟨Try.prog, [(33, s33), (34, s34), (32, s32)], [(30, s30, y30)], [], []⟩
def iv7 : List Iv := []
def t7 : VC :=
 (.ite (.lt (.lit 1048576) (.len (.var 0)))
  (.fin (.e (.lit 1) .nil))
  (.ite (.lt (.lit 1048576) (.len (.var 1)))
   (.fin (.e (.lit 1) .nil))
   (.need [(.b (.le (.len (.var 0)) (.lit 1099511627776)))]
   (.need [(.b (.le (.len (.var 1)) (.lit 1099511627776)))]
   (.call 33 (.l (.var 0) (.l (.var 1) .nil)) 2
   (.need [(.b (.le (.len (.var 0)) (.lit 1099511627776)))]
   (.need [(.b (.le (.len (.var 1)) (.lit 1099511627776)))]
   (.call 34 (.l (.var 0) (.l (.var 1) .nil)) 2
   (.ite (.eq (.var 2) (.var 0))
    (.ite (.not (.eq (.var 3) (.var 1)))
     (.fin (.e (.lit 0) .nil))
     (.need [(.b (.le (.len (.var 0)) (.lit 1099511627776)))]
     (.call 32 (.l (.var 0) (.l (.var 0) .nil)) 1
     (.ite (.not (.eq (.var 4) (.lit 1)))
      (.fin (.e (.lit 0) .nil))
      (.need [(.b (.le (.len (.var 1)) (.lit 1099511627776)))]
      (.call 32 (.l (.var 1) (.l (.var 1) .nil)) 1
      (.ite (.not (.eq (.var 5) (.lit 1)))
       (.fin (.e (.lit 0) .nil))
       (.fin (.e (.lit 1) .nil)))))))))
    (.fin (.e (.lit 0) .nil)))))))))))
theorem vc7 : vcOfI ⟨c7, []⟩ iv7 (parLvs s7.params) 250 Try.f7 s7 = t7 := by kernel_rfl
set_option linter.unusedVariables false in
def p7 (T : Tab) (I : Nat → Env → Env → Prop) (M : Nat → Env → Env → Nat) (pre : Nat → List Int → List (List Int) → Prop) (post : List Int → List (List Int) → Prop) (l0 l1 : List Int) : Prop :=
 ((decide ((1048576 : Int) < (List.length l0 : Int)) = true →
  post [1] []) ∧ (decide ((1048576 : Int) < (List.length l0 : Int)) = false →
  ((decide ((1048576 : Int) < (List.length l1 : Int)) = true →
   post [1] []) ∧ (decide ((1048576 : Int) < (List.length l1 : Int)) = false →
   ((decide (((List.length l0 : Int) : Int) ≤ 1099511627776) = true) ∧ ((decide (((List.length l0 : Int) : Int) ≤ 1099511627776) = true) →
   ((decide (((List.length l1 : Int) : Int) ≤ 1099511627776) = true) ∧ ((decide (((List.length l1 : Int) : Int) ≤ 1099511627776) = true) →
   ∀ v0 v1 : Int, [v0, v1] = T.outL 33 2 [] [l0, l1] →
   ((decide (((List.length l0 : Int) : Int) ≤ 1099511627776) = true) ∧ ((decide (((List.length l0 : Int) : Int) ≤ 1099511627776) = true) →
   ((decide (((List.length l1 : Int) : Int) ≤ 1099511627776) = true) ∧ ((decide (((List.length l1 : Int) : Int) ≤ 1099511627776) = true) →
   ∀ v2 v3 : Int, [v2, v3] = T.outL 34 2 [] [l0, l1] →
   ((decide ((v2 : Int) = v0) = true →
    (((!decide ((v3 : Int) = v1)) = true →
     post [0] []) ∧ ((!decide ((v3 : Int) = v1)) = false →
     ((decide (((List.length l0 : Int) : Int) ≤ 1099511627776) = true) ∧ ((decide (((List.length l0 : Int) : Int) ≤ 1099511627776) = true) →
     ∀ v4 : Int, [v4] = T.outL 32 1 [] [l0, l0] →
     (((!decide ((v4 : Int) = 1)) = true →
      post [0] []) ∧ ((!decide ((v4 : Int) = 1)) = false →
      ((decide (((List.length l1 : Int) : Int) ≤ 1099511627776) = true) ∧ ((decide (((List.length l1 : Int) : Int) ≤ 1099511627776) = true) →
      ∀ v5 : Int, [v5] = T.outL 32 1 [] [l1, l1] →
      (((!decide ((v5 : Int) = 1)) = true →
       post [0] []) ∧ ((!decide ((v5 : Int) = 1)) = false →
       post [1] []))))))))))) ∧ (decide ((v2 : Int) = v0) = false →
    post [0] []))))))))))))))
theorem q7 (T : Tab) (I : Nat → Env → Env → Prop) (M : Nat → Env → Env → Nat) (pre : Nat → List Int → List (List Int) → Prop) (post : List Int → List (List Int) → Prop) (l0 l1 : List Int) : t7.plain T (presG pre I M) post ⟨[], [l0, l1]⟩ = p7 T I M pre post l0 l1 := by kernel_rfl
theorem k7 (T : Tab) (I : Nat → Env → Env → Prop) (M : Nat → Env → Env → Nat) (pre : Nat → List Int → List (List Int) → Prop) (hs : SubSig T c7.sigs) (ht : TotG pre c7.sigs) (hg : T.sig 7 = some s7) (hC : CtAll Try.prog T.fns (presQ pre) c7.sigs) (hk : CpAll Try.prog c7.cps) (hi : ∀ xs ls, allHas (parIvs s7.params) xs → pre 7 xs ls → allHas iv7 xs)
    (h : ∀ (l0 l1 : List Int), allHas iv7 [] → allL (parLvs s7.params) [l0, l1] → pre 7 [] [l0, l1] → p7 T I M pre (fun ys _ => ys = T.app 7 [] [l0, l1]) l0 l1) : CT Try.prog T.fns (presQ pre) 7 s7 :=
  T.ctg (F := ⟨c7, []⟩) (fuel := 250) vc7 Try.checked.mixed hs ht hg hC hk Try.func7 I M (fun xs ls h1 h2 h3 => ⟨hi xs ls h1 h3, h2⟩) fun xs ls hx hl hp => by
    match xs, ls, hx, hl, hp with
    | [], [l0, l1], hx, hl, hp => rw [q7]; exact h l0 l1 hx hl hp
end Go.Proofs.Ytjpcmjgogdemoaa.Sx
