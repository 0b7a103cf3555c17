import Derived.Test.YtaknnjlkpepgaaaSxT
import Derived.Test.YtaknnjlkpepgaaaLA
import Derived.Test.YtaknnjlkpepgaaaChecked
import Derived.KernelRfl
namespace Go.Proofs.Ytaknnjlkpepgaaa.Sx
open Go Go.RowKit
/-- loop.example/g01242/laws.szInt8S -/
def s75 : Sig := ⟨[.lst [.i8], .val false [.i .i64]], [(false, [.i .i64])], true⟩
noncomputable def c75 : Cfg := ⟨Try.prog, [], []⟩
def iv75 : List Iv := [⟨(-9223372036854775808), 9223372036854775807⟩]
def t75 : VC :=
 (.bind (.wrap .i64 (.sub (.var 0) (.len (.var 0))))
 (.ite (.lt (.var 1) (.lit 0))
  (.fin (.e (.lit (-1)) .nil))
  (.fin (.e (.var 1) .nil))))
theorem vc75 : vcOfI ⟨c75, []⟩ iv75 (parLvs s75.params) 250 Try.f75 s75 = t75 := by kernel_rfl
set_option linter.unusedVariables false in
def p75 (T : Tab) (I : Nat → Env → Env → Prop) (M : Nat → Env → Env → Nat) (pre : Nat → List Int → List (List Int) → Prop) (post : List Int → List (List Int) → Prop) (v0 : Int) (l0 : List Int) : Prop :=
 ∀ v1 : Int, v1 = (IntKind.wrap .i64 (v0 - (List.length l0 : Int))) →
 ((decide ((v1 : Int) < 0) = true →
  post [(-1)] []) ∧ (decide ((v1 : Int) < 0) = false →
  post [v1] []))
theorem q75 (T : Tab) (I : Nat → Env → Env → Prop) (M : Nat → Env → Env → Nat) (pre : Nat → List Int → List (List Int) → Prop) (post : List Int → List (List Int) → Prop) (v0 : Int) (l0 : List Int) : t75.plain T (presG pre I M) post ⟨[v0], [l0]⟩ = p75 T I M pre post v0 l0 := by kernel_rfl
theorem k75 (T : Tab) (I : Nat → Env → Env → Prop) (M : Nat → Env → Env → Nat) (pre : Nat → List Int → List (List Int) → Prop) (hs : SubSig T c75.sigs) (ht : TotG pre c75.sigs) (hg : T.sig 75 = some s75) (hC : CtAll Try.prog T.fns (presQ pre) c75.sigs) (hk : CpAll Try.prog c75.cps) (hi : ∀ xs ls, allHas (parIvs s75.params) xs → pre 75 xs ls → allHas iv75 xs)
    (h : ∀ (v0 : Int) (l0 : List Int), allHas iv75 [v0] → allL (parLvs s75.params) [l0] → pre 75 [v0] [l0] → p75 T I M pre (fun ys _ => ys = T.app 75 [v0] [l0]) v0 l0) : CT Try.prog T.fns (presQ pre) 75 s75 :=
  T.ctg (F := ⟨c75, []⟩) (fuel := 250) vc75 Try.checked.mixed hs ht hg hC hk Try.func75 I M (fun xs ls h1 h2 h3 => ⟨hi xs ls h1 h3, h2⟩) fun xs ls hx hl hp => by
    match xs, ls, hx, hl, hp with
    | [v0], [l0], hx, hl, hp => rw [q75]; exact h v0 l0 hx hl hp
/-- loop.example/g01242/laws.szStream -/
def s35 : Sig := ⟨[.lsts [[.i8], [.i8]], .val false [.i .i64]], [(false, [.i .i64])], true⟩
noncomputable def c35 : Cfg := ⟨Try.prog, [(75, s75)], []⟩
def iv35 : List Iv := [⟨(-9223372036854775808), 9223372036854775807⟩]
def t35 : VC :=
 (.call 75 (.l (.var 0) (.e (.var 0) .nil)) 1
 (.ite (.lt (.var 1) (.lit 0))
  (.fin (.e (.lit (-1)) .nil))
  (.call 75 (.l (.var 1) (.e (.var 1) .nil)) 1
  (.ite (.lt (.var 2) (.lit 0))
   (.fin (.e (.lit (-1)) .nil))
   (.fin (.e (.var 2) .nil))))))
theorem vc35 : vcOfI ⟨c35, []⟩ iv35 (parLvs s35.params) 250 Try.f35 s35 = t35 := by kernel_rfl
set_option linter.unusedVariables false in
def p35 (T : Tab) (I : Nat → Env → Env → Prop) (M : Nat → Env → Env → Nat) (pre : Nat → List Int → List (List Int) → Prop) (post : List Int → List (List Int) → Prop) (v0 : Int) (l0 l1 : List Int) : Prop :=
 ∀ v1 : Int, [v1] = T.outL 75 1 [v0] [l0] →
 ((decide ((v1 : Int) < 0) = true →
  post [(-1)] []) ∧ (decide ((v1 : Int) < 0) = false →
  ∀ v2 : Int, [v2] = T.outL 75 1 [v1] [l1] →
  ((decide ((v2 : Int) < 0) = true →
   post [(-1)] []) ∧ (decide ((v2 : Int) < 0) = false →
   post [v2] []))))
theorem q35 (T : Tab) (I : Nat → Env → Env → Prop) (M : Nat → Env → Env → Nat) (pre : Nat → List Int → List (List Int) → Prop) (post : List Int → List (List Int) → Prop) (v0 : Int) (l0 l1 : List Int) : t35.plain T (presG pre I M) post ⟨[v0], [l0, l1]⟩ = p35 T I M pre post v0 l0 l1 := by kernel_rfl
theorem k35 (T : Tab) (I : Nat → Env → Env → Prop) (M : Nat → Env → Env → Nat) (pre : Nat → List Int → List (List Int) → Prop) (hs : SubSig T c35.sigs) (ht : TotG pre c35.sigs) (hg : T.sig 35 = some s35) (hC : CtAll Try.prog T.fns (presQ pre) c35.sigs) (hk : CpAll Try.prog c35.cps) (hi : ∀ xs ls, allHas (parIvs s35.params) xs → pre 35 xs ls → allHas iv35 xs)
    (h : ∀ (v0 : Int) (l0 l1 : List Int), allHas iv35 [v0] → allL (parLvs s35.params) [l0, l1] → pre 35 [v0] [l0, l1] → p35 T I M pre (fun ys _ => ys = T.app 35 [v0] [l0, l1]) v0 l0 l1) : CT Try.prog T.fns (presQ pre) 35 s35 :=
  T.ctg (F := ⟨c35, []⟩) (fuel := 250) vc35 Try.checked.mixed hs ht hg hC hk Try.func35 I M (fun xs ls h1 h2 h3 => ⟨hi xs ls h1 h3, h2⟩) fun xs ls hx hl hp => by
    match xs, ls, hx, hl, hp with
    | [v0], [l0, l1], hx, hl, hp => rw [q35]; exact h v0 l0 l1 hx hl hp
/-- loop.example/g01242/laws.eqInt8S -/
def s46 : Sig := ⟨[.lst [.i8], .lst [.i8]], [(false, [.b])], true⟩
noncomputable def c46 : Cfg := ⟨Try.prog, [], []⟩
def iv46 : List Iv := []
def t46 : VC :=
 (.ite (.not (.eq (.len (.var 0)) (.len (.var 1))))
  (.fin (.e (.lit 0) .nil))
  (.loop 1 [(.lit 0)] [] [⟨(-9223372036854775808), 9223372036854775807⟩] []
   (.ite (.lt (.var 0) (.len (.var 0)))
    (.need [(.b (.le (.lit 0) (.var 0))), (.b (.lt (.var 0) (.len (.var 0)))), (.b (.lt (.add (.lit 0) (.var 0)) (.len (.var 0)))), (.b (.le (.lit 0) (.var 0))), (.b (.lt (.var 0) (.len (.var 1)))), (.b (.lt (.add (.lit 0) (.var 0)) (.len (.var 1))))]
    (.bind (.at (.var 0) (.add (.lit 0) (.var 0)))
    (.bind (.at (.var 1) (.add (.lit 0) (.var 0)))
    (.ite (.not (.eq (.at (.var 0) (.add (.lit 0) (.var 0))) (.at (.var 1) (.add (.lit 0) (.var 0)))))
     (.fin (.e (.lit 0) .nil))
     (.bind (.wrap .i64 (.add (.var 0) (.lit 1)))
     (.again 1 0 2 [⟨(-9223372036854775808), 9223372036854775807⟩] [(.var 3)] []))))))
    (.fin (.e (.lit 1) .nil)))))
theorem vc46 : vcOfI ⟨c46, [(4, ⟨1, [5], [], [11, 12, 13, 14, 17, 18, 19, 20, 21, 22, 23, 24, 25, 4, 15, 16], [⟨(-9223372036854775808), 9223372036854775807⟩], []⟩)]⟩ iv46 (parLvs s46.params) 250 Try.f46 s46 = t46 := by kernel_rfl
set_option linter.unusedVariables false in
def p46 (T : Tab) (I : Nat → Env → Env → Prop) (M : Nat → Env → Env → Nat) (pre : Nat → List Int → List (List Int) → Prop) (post : List Int → List (List Int) → Prop) (l0 l1 : List Int) : Prop :=
 (((!decide (((List.length l0 : Int) : Int) = (List.length l1 : Int))) = true →
  post [0] []) ∧ ((!decide (((List.length l0 : Int) : Int) = (List.length l1 : Int))) = false →
  ((allHas [⟨(-9223372036854775808), 9223372036854775807⟩] [0] ∧ I 1 ⟨[], [l0, l1]⟩ ⟨[0], []⟩) ∧ ∀ v0 : Int, allHas [⟨(-9223372036854775808), 9223372036854775807⟩] [v0] → I 1 ⟨[], [l0, l1]⟩ ⟨[v0], []⟩ →
   ((decide ((v0 : Int) < (List.length l0 : Int)) = true →
    ((decide ((0 : Int) ≤ v0) = true ∧ decide ((v0 : Int) < (List.length l0 : Int)) = true ∧ decide (((0 + v0) : Int) < (List.length l0 : Int)) = true ∧ decide ((0 : Int) ≤ v0) = true ∧ decide ((v0 : Int) < (List.length l1 : Int)) = true ∧ decide (((0 + v0) : Int) < (List.length l1 : Int)) = true) ∧ ((decide ((0 : Int) ≤ v0) = true ∧ decide ((v0 : Int) < (List.length l0 : Int)) = true ∧ decide (((0 + v0) : Int) < (List.length l0 : Int)) = true ∧ decide ((0 : Int) ≤ v0) = true ∧ decide ((v0 : Int) < (List.length l1 : Int)) = true ∧ decide (((0 + v0) : Int) < (List.length l1 : Int)) = true) →
    ∀ v1 : Int, v1 = (List.getD l0 (Int.toNat (0 + v0)) 0) →
    ∀ v2 : Int, v2 = (List.getD l1 (Int.toNat (0 + v0)) 0) →
    (((!decide (((List.getD l0 (Int.toNat (0 + v0)) 0) : Int) = (List.getD l1 (Int.toNat (0 + v0)) 0))) = true →
     post [0] []) ∧ ((!decide (((List.getD l0 (Int.toNat (0 + v0)) 0) : Int) = (List.getD l1 (Int.toNat (0 + v0)) 0))) = false →
     ∀ v3 : Int, v3 = (IntKind.wrap .i64 (v0 + 1)) →
     (allHas [⟨(-9223372036854775808), 9223372036854775807⟩] [v3] ∧ I 1 ⟨[], [l0, l1]⟩ ⟨[v3], []⟩ ∧ M 1 ⟨[], [l0, l1]⟩ ⟨[v3], []⟩ < M 1 ⟨[], [l0, l1]⟩ ⟨[v0], []⟩)))))) ∧ (decide ((v0 : Int) < (List.length l0 : Int)) = false →
    post [1] [])))))
theorem q46 (T : Tab) (I : Nat → Env → Env → Prop) (M : Nat → Env → Env → Nat) (pre : Nat → List Int → List (List Int) → Prop) (post : List Int → List (List Int) → Prop) (l0 l1 : List Int) : t46.plain T (presG pre I M) post ⟨[], [l0, l1]⟩ = p46 T I M pre post l0 l1 := by kernel_rfl
theorem k46 (T : Tab) (I : Nat → Env → Env → Prop) (M : Nat → Env → Env → Nat) (pre : Nat → List Int → List (List Int) → Prop) (hs : SubSig T c46.sigs) (ht : TotG pre c46.sigs) (hg : T.sig 46 = some s46) (hC : CtAll Try.prog T.fns (presQ pre) c46.sigs) (hk : CpAll Try.prog c46.cps) (hi : ∀ xs ls, allHas (parIvs s46.params) xs → pre 46 xs ls → allHas iv46 xs)
    (h : ∀ (l0 l1 : List Int), allHas iv46 [] → allL (parLvs s46.params) [l0, l1] → pre 46 [] [l0, l1] → p46 T I M pre (fun ys _ => ys = T.app 46 [] [l0, l1]) l0 l1) : CT Try.prog T.fns (presQ pre) 46 s46 :=
  T.ctg (F := ⟨c46, [(4, ⟨1, [5], [], [11, 12, 13, 14, 17, 18, 19, 20, 21, 22, 23, 24, 25, 4, 15, 16], [⟨(-9223372036854775808), 9223372036854775807⟩], []⟩)]⟩) (fuel := 250) vc46 Try.checked.mixed hs ht hg hC hk Try.func46 I M (fun xs ls h1 h2 h3 => ⟨hi xs ls h1 h3, h2⟩) fun xs ls hx hl hp => by
    match xs, ls, hx, hl, hp with
    | [], [l0, l1], hx, hl, hp => rw [q46]; exact h l0 l1 hx hl hp
/-- loop.example/g01242/laws.eqStream -/
def s39 : Sig := ⟨[.lsts [[.i8], [.i8]], .lsts [[.i8], [.i8]]], [(false, [.b])], true⟩
noncomputable def c39 : Cfg := ⟨Try.prog, [(46, s46)], []⟩
def iv39 : List Iv := []
def t39 : VC :=
 (.call 46 (.l (.var 0) (.l (.var 2) .nil)) 1
 (.ite (.not (.eq (.var 0) (.lit 1)))
  (.fin (.e (.lit 0) .nil))
  (.call 46 (.l (.var 1) (.l (.var 3) .nil)) 1
  (.ite (.not (.eq (.var 1) (.lit 1)))
   (.fin (.e (.lit 0) .nil))
   (.fin (.e (.lit 1) .nil))))))
theorem vc39 : vcOfI ⟨c39, []⟩ iv39 (parLvs s39.params) 250 Try.f39 s39 = t39 := by kernel_rfl
set_option linter.unusedVariables false in
def p39 (T : Tab) (I : Nat → Env → Env → Prop) (M : Nat → Env → Env → Nat) (pre : Nat → List Int → List (List Int) → Prop) (post : List Int → List (List Int) → Prop) (l0 l1 l2 l3 : List Int) : Prop :=
 ∀ v0 : Int, [v0] = T.outL 46 1 [] [l0, l2] →
 (((!decide ((v0 : Int) = 1)) = true →
  post [0] []) ∧ ((!decide ((v0 : Int) = 1)) = false →
  ∀ v1 : Int, [v1] = T.outL 46 1 [] [l1, l3] →
  (((!decide ((v1 : Int) = 1)) = true →
   post [0] []) ∧ ((!decide ((v1 : Int) = 1)) = false →
   post [1] []))))
theorem q39 (T : Tab) (I : Nat → Env → Env → Prop) (M : Nat → Env → Env → Nat) (pre : Nat → List Int → List (List Int) → Prop) (post : List Int → List (List Int) → Prop) (l0 l1 l2 l3 : List Int) : t39.plain T (presG pre I M) post ⟨[], [l0, l1, l2, l3]⟩ = p39 T I M pre post l0 l1 l2 l3 := by kernel_rfl
theorem k39 (T : Tab) (I : Nat → Env → Env → Prop) (M : Nat → Env → Env → Nat) (pre : Nat → List Int → List (List Int) → Prop) (hs : SubSig T c39.sigs) (ht : TotG pre c39.sigs) (hg : T.sig 39 = some s39) (hC : CtAll Try.prog T.fns (presQ pre) c39.sigs) (hk : CpAll Try.prog c39.cps) (hi : ∀ xs ls, allHas (parIvs s39.params) xs → pre 39 xs ls → allHas iv39 xs)
    (h : ∀ (l0 l1 l2 l3 : List Int), allHas iv39 [] → allL (parLvs s39.params) [l0, l1, l2, l3] → pre 39 [] [l0, l1, l2, l3] → p39 T I M pre (fun ys _ => ys = T.app 39 [] [l0, l1, l2, l3]) l0 l1 l2 l3) : CT Try.prog T.fns (presQ pre) 39 s39 :=
  T.ctg (F := ⟨c39, []⟩) (fuel := 250) vc39 Try.checked.mixed hs ht hg hC hk Try.func39 I M (fun xs ls h1 h2 h3 => ⟨hi xs ls h1 h3, h2⟩) fun xs ls hx hl hp => by
    match xs, ls, hx, hl, hp with
    | [], [l0, l1, l2, l3], hx, hl, hp => rw [q39]; exact h l0 l1 l2 l3 hx hl hp
/-- loop.example/g01242/spec.l03Digits -/
def s84 : Sig := ⟨[.lst [.i8]], [(false, [.b])], true⟩
noncomputable def c84 : Cfg := ⟨Try.prog, [], []⟩
def iv84 : List Iv := []
def t84 : VC :=
 (.loop 1 [(.lit 0)] [] [⟨(-9223372036854775808), 9223372036854775807⟩] []
  (.ite (.lt (.var 0) (.len (.var 0)))
   (.need [(.b (.le (.lit 0) (.var 0))), (.b (.lt (.var 0) (.len (.var 0))))]
   (.need [(.b (.lt (.add (.lit 0) (.var 0)) (.len (.var 0))))]
   (.bind (.at (.var 0) (.add (.lit 0) (.var 0)))
   (.ite (.le (.lit (-1)) (.var 1))
    (.need [(.b (.le (.lit 0) (.var 0))), (.b (.lt (.var 0) (.len (.var 0))))]
    (.need [(.b (.lt (.add (.lit 0) (.var 0)) (.len (.var 0))))]
    (.bind (.at (.var 0) (.add (.lit 0) (.var 0)))
    (.ite (.lt (.lit 1) (.var 2))
     (.fin (.e (.lit 0) .nil))
     (.bind (.wrap .i64 (.add (.var 0) (.lit 1)))
     (.again 1 0 1 [⟨(-9223372036854775808), 9223372036854775807⟩] [(.var 3)] []))))))
    (.fin (.e (.lit 0) .nil))))))
   (.fin (.e (.lit 1) .nil))))
theorem vc84 : vcOfI ⟨c84, [(2, ⟨1, [3], [], [4, 5, 6, 7, 10, 11, 12, 13, 14, 15, 16, 17, 18, 19, 20, 21, 2, 8, 9], [⟨(-9223372036854775808), 9223372036854775807⟩], []⟩)]⟩ iv84 (parLvs s84.params) 250 Try.f84 s84 = t84 := by kernel_rfl
set_option linter.unusedVariables false in
def p84 (T : Tab) (I : Nat → Env → Env → Prop) (M : Nat → Env → Env → Nat) (pre : Nat → List Int → List (List Int) → Prop) (post : List Int → List (List Int) → Prop) (l0 : List Int) : Prop :=
 ((allHas [⟨(-9223372036854775808), 9223372036854775807⟩] [0] ∧ I 1 ⟨[], [l0]⟩ ⟨[0], []⟩) ∧ ∀ v0 : Int, allHas [⟨(-9223372036854775808), 9223372036854775807⟩] [v0] → I 1 ⟨[], [l0]⟩ ⟨[v0], []⟩ →
  ((decide ((v0 : Int) < (List.length l0 : Int)) = true →
   ((decide ((0 : Int) ≤ v0) = true ∧ decide ((v0 : Int) < (List.length l0 : Int)) = true) ∧ ((decide ((0 : Int) ≤ v0) = true ∧ decide ((v0 : Int) < (List.length l0 : Int)) = true) →
   ((decide (((0 + v0) : Int) < (List.length l0 : Int)) = true) ∧ ((decide (((0 + v0) : Int) < (List.length l0 : Int)) = true) →
   ∀ v1 : Int, v1 = (List.getD l0 (Int.toNat (0 + v0)) 0) →
   ((decide (((-1) : Int) ≤ v1) = true →
    ((decide ((0 : Int) ≤ v0) = true ∧ decide ((v0 : Int) < (List.length l0 : Int)) = true) ∧ ((decide ((0 : Int) ≤ v0) = true ∧ decide ((v0 : Int) < (List.length l0 : Int)) = true) →
    ((decide (((0 + v0) : Int) < (List.length l0 : Int)) = true) ∧ ((decide (((0 + v0) : Int) < (List.length l0 : Int)) = true) →
    ∀ v2 : Int, v2 = (List.getD l0 (Int.toNat (0 + v0)) 0) →
    ((decide ((1 : Int) < v2) = true →
     post [0] []) ∧ (decide ((1 : Int) < v2) = false →
     ∀ v3 : Int, v3 = (IntKind.wrap .i64 (v0 + 1)) →
     (allHas [⟨(-9223372036854775808), 9223372036854775807⟩] [v3] ∧ I 1 ⟨[], [l0]⟩ ⟨[v3], []⟩ ∧ M 1 ⟨[], [l0]⟩ ⟨[v3], []⟩ < M 1 ⟨[], [l0]⟩ ⟨[v0], []⟩)))))))) ∧ (decide (((-1) : Int) ≤ v1) = false →
    post [0] []))))))) ∧ (decide ((v0 : Int) < (List.length l0 : Int)) = false →
   post [1] [])))
theorem q84 (T : Tab) (I : Nat → Env → Env → Prop) (M : Nat → Env → Env → Nat) (pre : Nat → List Int → List (List Int) → Prop) (post : List Int → List (List Int) → Prop) (l0 : List Int) : t84.plain T (presG pre I M) post ⟨[], [l0]⟩ = p84 T I M pre post l0 := by kernel_rfl
theorem k84 (T : Tab) (I : Nat → Env → Env → Prop) (M : Nat → Env → Env → Nat) (pre : Nat → List Int → List (List Int) → Prop) (hs : SubSig T c84.sigs) (ht : TotG pre c84.sigs) (hg : T.sig 84 = some s84) (hC : CtAll Try.prog T.fns (presQ pre) c84.sigs) (hk : CpAll Try.prog c84.cps) (hi : ∀ xs ls, allHas (parIvs s84.params) xs → pre 84 xs ls → allHas iv84 xs)
    (h : ∀ (l0 : List Int), allHas iv84 [] → allL (parLvs s84.params) [l0] → pre 84 [] [l0] → p84 T I M pre (fun ys _ => ys = T.app 84 [] [l0]) l0) : CT Try.prog T.fns (presQ pre) 84 s84 :=
  T.ctg (F := ⟨c84, [(2, ⟨1, [3], [], [4, 5, 6, 7, 10, 11, 12, 13, 14, 15, 16, 17, 18, 19, 20, 21, 2, 8, 9], [⟨(-9223372036854775808), 9223372036854775807⟩], []⟩)]⟩) (fuel := 250) vc84 Try.checked.mixed hs ht hg hC hk Try.func84 I M (fun xs ls h1 h2 h3 => ⟨hi xs ls h1 h3, h2⟩) fun xs ls hx hl hp => by
    match xs, ls, hx, hl, hp with
    | [], [l0], hx, hl, hp => rw [q84]; exact h l0 hx hl hp
/-- loop.example/g01242/spec.l00In -/
def s59 : Sig := ⟨[.val false [.i .i64], .val false [.i .i64], .val false [.i .i64]], [(false, [.b])], true⟩
noncomputable def c59 : Cfg := ⟨Try.prog, [], []⟩
def iv59 : List Iv := [⟨(-9223372036854775808), 9223372036854775807⟩, ⟨(-9223372036854775808), 9223372036854775807⟩, ⟨(-9223372036854775808), 9223372036854775807⟩]
def t59 : VC :=
 (.ite (.le (.var 1) (.var 0))
  (.fin (.e (.ite (.le (.var 0) (.var 2)) (.lit 1) (.lit 0)) .nil))
  (.fin (.e (.lit 0) .nil)))
theorem vc59 : vcOfI ⟨c59, []⟩ iv59 (parLvs s59.params) 250 Try.f59 s59 = t59 := by kernel_rfl
set_option linter.unusedVariables false in
def p59 (T : Tab) (I : Nat → Env → Env → Prop) (M : Nat → Env → Env → Nat) (pre : Nat → List Int → List (List Int) → Prop) (post : List Int → List (List Int) → Prop) (v0 v1 v2 : Int) : Prop :=
 ((decide ((v1 : Int) ≤ v0) = true →
  post [(if decide ((v0 : Int) ≤ v2) = true then 1 else 0)] []) ∧ (decide ((v1 : Int) ≤ v0) = false →
  post [0] []))
theorem q59 (T : Tab) (I : Nat → Env → Env → Prop) (M : Nat → Env → Env → Nat) (pre : Nat → List Int → List (List Int) → Prop) (post : List Int → List (List Int) → Prop) (v0 v1 v2 : Int) : t59.plain T (presG pre I M) post ⟨[v0, v1, v2], []⟩ = p59 T I M pre post v0 v1 v2 := by kernel_rfl
theorem k59 (T : Tab) (I : Nat → Env → Env → Prop) (M : Nat → Env → Env → Nat) (pre : Nat → List Int → List (List Int) → Prop) (hs : SubSig T c59.sigs) (ht : TotG pre c59.sigs) (hg : T.sig 59 = some s59) (hC : CtAll Try.prog T.fns (presQ pre) c59.sigs) (hk : CpAll Try.prog c59.cps) (hi : ∀ xs ls, allHas (parIvs s59.params) xs → pre 59 xs ls → allHas iv59 xs)
    (h : ∀ (v0 v1 v2 : Int), allHas iv59 [v0, v1, v2] → allL (parLvs s59.params) [] → pre 59 [v0, v1, v2] [] → p59 T I M pre (fun ys _ => ys = T.app 59 [v0, v1, v2] []) v0 v1 v2) : CT Try.prog T.fns (presQ pre) 59 s59 :=
  T.ctg (F := ⟨c59, []⟩) (fuel := 250) vc59 Try.checked.mixed hs ht hg hC hk Try.func59 I M (fun xs ls h1 h2 h3 => ⟨hi xs ls h1 h3, h2⟩) fun xs ls hx hl hp => by
    match xs, ls, hx, hl, hp with
    | [v0, v1, v2], [], hx, hl, hp => rw [q59]; exact h v0 v1 v2 hx hl hp
/-- loop.example/g01242/spec.l03Ok -/
def s76 : Sig := ⟨[.plsts [[.i8], [.i8]]], [(false, [.b])], true⟩
noncomputable def c76 : Cfg := ⟨Try.prog, [(59, s59), (84, s84)], []⟩
def iv76 : List Iv := []
def t76 : VC :=
 (.ite (.le (.len (.var 0)) (.lit 16))
  (.call 59 (.e (.len (.var 1)) (.e (.lit 1) (.e (.lit 14) .nil))) 1
  (.ite (.eq (.var 0) (.lit 1))
   (.call 84 (.l (.var 0) .nil) 1
   (.ite (.eq (.var 1) (.lit 1))
    (.call 84 (.l (.var 1) .nil) 1
    (.fin (.e (.var 2) .nil)))
    (.fin (.e (.lit 0) .nil))))
   (.fin (.e (.lit 0) .nil))))
  (.fin (.e (.lit 0) .nil)))
theorem vc76 : vcOfI ⟨c76, []⟩ iv76 (parLvs s76.params) 250 Try.f76 s76 = t76 := by kernel_rfl
set_option linter.unusedVariables false in
def p76 (T : Tab) (I : Nat → Env → Env → Prop) (M : Nat → Env → Env → Nat) (pre : Nat → List Int → List (List Int) → Prop) (post : List Int → List (List Int) → Prop) (l0 l1 : List Int) : Prop :=
 ((decide (((List.length l0 : Int) : Int) ≤ 16) = true →
  ∀ v0 : Int, [v0] = T.out 59 1 [(List.length l1 : Int), 1, 14] →
  ((decide ((v0 : Int) = 1) = true →
   ∀ v1 : Int, [v1] = T.outL 84 1 [] [l0] →
   ((decide ((v1 : Int) = 1) = true →
    ∀ v2 : Int, [v2] = T.outL 84 1 [] [l1] →
    post [v2] []) ∧ (decide ((v1 : Int) = 1) = false →
    post [0] []))) ∧ (decide ((v0 : Int) = 1) = false →
   post [0] []))) ∧ (decide (((List.length l0 : Int) : Int) ≤ 16) = false →
  post [0] []))
theorem q76 (T : Tab) (I : Nat → Env → Env → Prop) (M : Nat → Env → Env → Nat) (pre : Nat → List Int → List (List Int) → Prop) (post : List Int → List (List Int) → Prop) (l0 l1 : List Int) : t76.plain T (presG pre I M) post ⟨[], [l0, l1]⟩ = p76 T I M pre post l0 l1 := by kernel_rfl
theorem k76 (T : Tab) (I : Nat → Env → Env → Prop) (M : Nat → Env → Env → Nat) (pre : Nat → List Int → List (List Int) → Prop) (hs : SubSig T c76.sigs) (ht : TotG pre c76.sigs) (hg : T.sig 76 = some s76) (hC : CtAll Try.prog T.fns (presQ pre) c76.sigs) (hk : CpAll Try.prog c76.cps) (hi : ∀ xs ls, allHas (parIvs s76.params) xs → pre 76 xs ls → allHas iv76 xs)
    (h : ∀ (l0 l1 : List Int), allHas iv76 [] → allL (parLvs s76.params) [l0, l1] → pre 76 [] [l0, l1] → p76 T I M pre (fun ys _ => ys = T.app 76 [] [l0, l1]) l0 l1) : CT Try.prog T.fns (presQ pre) 76 s76 :=
  T.ctg (F := ⟨c76, []⟩) (fuel := 250) vc76 Try.checked.mixed hs ht hg hC hk Try.func76 I M (fun xs ls h1 h2 h3 => ⟨hi xs ls h1 h3, h2⟩) fun xs ls hx hl hp => by
    match xs, ls, hx, hl, hp with
    | [], [l0, l1], hx, hl, hp => rw [q76]; exact h l0 l1 hx hl hp
/-- loop.example/g01242/spec.ValidStream -/
def s36 : Sig := ⟨[.lsts [[.i8], [.i8]]], [(false, [.b])], true⟩
noncomputable def c36 : Cfg := ⟨Try.prog, [(76, s76)], []⟩
def iv36 : List Iv := []
def t36 : VC :=
 (.call 76 (.l (.var 0) (.l (.var 1) .nil)) 1
 (.fin (.e (.var 0) .nil)))
theorem vc36 : vcOfI ⟨c36, []⟩ iv36 (parLvs s36.params) 250 Try.f36 s36 = t36 := by kernel_rfl
set_option linter.unusedVariables false in
def p36 (T : Tab) (I : Nat → Env → Env → Prop) (M : Nat → Env → Env → Nat) (pre : Nat → List Int → List (List Int) → Prop) (post : List Int → List (List Int) → Prop) (l0 l1 : List Int) : Prop :=
 ∀ v0 : Int, [v0] = T.outL 76 1 [] [l0, l1] →
 post [v0] []
theorem q36 (T : Tab) (I : Nat → Env → Env → Prop) (M : Nat → Env → Env → Nat) (pre : Nat → List Int → List (List Int) → Prop) (post : List Int → List (List Int) → Prop) (l0 l1 : List Int) : t36.plain T (presG pre I M) post ⟨[], [l0, l1]⟩ = p36 T I M pre post l0 l1 := by kernel_rfl
theorem k36 (T : Tab) (I : Nat → Env → Env → Prop) (M : Nat → Env → Env → Nat) (pre : Nat → List Int → List (List Int) → Prop) (hs : SubSig T c36.sigs) (ht : TotG pre c36.sigs) (hg : T.sig 36 = some s36) (hC : CtAll Try.prog T.fns (presQ pre) c36.sigs) (hk : CpAll Try.prog c36.cps) (hi : ∀ xs ls, allHas (parIvs s36.params) xs → pre 36 xs ls → allHas iv36 xs)
    (h : ∀ (l0 l1 : List Int), allHas iv36 [] → allL (parLvs s36.params) [l0, l1] → pre 36 [] [l0, l1] → p36 T I M pre (fun ys _ => ys = T.app 36 [] [l0, l1]) l0 l1) : CT Try.prog T.fns (presQ pre) 36 s36 :=
  T.ctg (F := ⟨c36, []⟩) (fuel := 250) vc36 Try.checked.mixed hs ht hg hC hk Try.func36 I M (fun xs ls h1 h2 h3 => ⟨hi xs ls h1 h3, h2⟩) fun xs ls hx hl hp => by
    match xs, ls, hx, hl, hp with
    | [], [l0, l1], hx, hl, hp => rw [q36]; exact h l0 l1 hx hl hp
/-- loop.example/g01242/impl.isNoDigit -/
def s78 : Sig := ⟨[.val false [.i .i8]], [(false, [.b])], true⟩
noncomputable def c78 : Cfg := ⟨Try.prog, [], []⟩
def iv78 : List Iv := [⟨(-128), 127⟩]
def t78 : VC :=
 (.ite (.le (.lit (-1)) (.var 0))
  (.fin (.e (.ite (.lt (.lit 1) (.var 0)) (.lit 1) (.lit 0)) .nil))
  (.fin (.e (.lit 1) .nil)))
theorem vc78 : vcOfI ⟨c78, []⟩ iv78 (parLvs s78.params) 250 Try.f78 s78 = t78 := by kernel_rfl
set_option linter.unusedVariables false in
def p78 (T : Tab) (I : Nat → Env → Env → Prop) (M : Nat → Env → Env → Nat) (pre : Nat → List Int → List (List Int) → Prop) (post : List Int → List (List Int) → Prop) (v0 : Int) : Prop :=
 ((decide (((-1) : Int) ≤ v0) = true →
  post [(if decide ((1 : Int) < v0) = true then 1 else 0)] []) ∧ (decide (((-1) : Int) ≤ v0) = false →
  post [1] []))
theorem q78 (T : Tab) (I : Nat → Env → Env → Prop) (M : Nat → Env → Env → Nat) (pre : Nat → List Int → List (List Int) → Prop) (post : List Int → List (List Int) → Prop) (v0 : Int) : t78.plain T (presG pre I M) post ⟨[v0], []⟩ = p78 T I M pre post v0 := by kernel_rfl
theorem k78 (T : Tab) (I : Nat → Env → Env → Prop) (M : Nat → Env → Env → Nat) (pre : Nat → List Int → List (List Int) → Prop) (hs : SubSig T c78.sigs) (ht : TotG pre c78.sigs) (hg : T.sig 78 = some s78) (hC : CtAll Try.prog T.fns (presQ pre) c78.sigs) (hk : CpAll Try.prog c78.cps) (hi : ∀ xs ls, allHas (parIvs s78.params) xs → pre 78 xs ls → allHas iv78 xs)
    (h : ∀ (v0 : Int), allHas iv78 [v0] → allL (parLvs s78.params) [] → pre 78 [v0] [] → p78 T I M pre (fun ys _ => ys = T.app 78 [v0] []) v0) : CT Try.prog T.fns (presQ pre) 78 s78 :=
  T.ctg (F := ⟨c78, []⟩) (fuel := 250) vc78 Try.checked.mixed hs ht hg hC hk Try.func78 I M (fun xs ls h1 h2 h3 => ⟨hi xs ls h1 h3, h2⟩) fun xs ls hx hl hp => by
    match xs, ls, hx, hl, hp with
    | [v0], [], hx, hl, hp => rw [q78]; exact h v0 hx hl hp
/-- slices.IndexFunc[[]int8,int8] -/
def s93 : Sig := ⟨[.lst [.i8], .fnc 78], [(false, [.i .i64])], true⟩
noncomputable def c93 : Cfg := ⟨Try.prog, [(78, s78)], []⟩
def iv93 : List Iv := []
def t93 : VC :=
 (.loop 1 [(.lit 0)] [] [⟨(-9223372036854775808), 9223372036854775807⟩] []
  (.ite (.lt (.var 0) (.len (.var 0)))
   (.need [(.b (.le (.lit 0) (.var 0))), (.b (.lt (.var 0) (.len (.var 0))))]
   (.need [(.b (.lt (.add (.lit 0) (.var 0)) (.len (.var 0))))]
   (.bind (.at (.var 0) (.add (.lit 0) (.var 0)))
   (.call 78 (.e (.var 1) .nil) 1
   (.ite (.eq (.var 2) (.lit 1))
    (.fin (.e (.var 0) .nil))
    (.again 1 0 1 [⟨(-9223372036854775808), 9223372036854775807⟩] [(.wrap .i64 (.add (.var 0) (.lit 1)))] []))))))
   (.fin (.e (.lit (-1)) .nil))))
theorem vc93 : vcOfI ⟨c93, [(2, ⟨1, [8], [], [9, 10, 5, 11, 12, 13, 14, 15, 16, 17, 4, 18], [⟨(-9223372036854775808), 9223372036854775807⟩], []⟩)]⟩ iv93 (parLvs s93.params) 250 Try.f93 s93 = t93 := by kernel_rfl
set_option linter.unusedVariables false in
def p93 (T : Tab) (I : Nat → Env → Env → Prop) (M : Nat → Env → Env → Nat) (pre : Nat → List Int → List (List Int) → Prop) (post : List Int → List (List Int) → Prop) (l0 : List Int) : Prop :=
 ((allHas [⟨(-9223372036854775808), 9223372036854775807⟩] [0] ∧ I 1 ⟨[], [l0]⟩ ⟨[0], []⟩) ∧ ∀ v0 : Int, allHas [⟨(-9223372036854775808), 9223372036854775807⟩] [v0] → I 1 ⟨[], [l0]⟩ ⟨[v0], []⟩ →
  ((decide ((v0 : Int) < (List.length l0 : Int)) = true →
   ((decide ((0 : Int) ≤ v0) = true ∧ decide ((v0 : Int) < (List.length l0 : Int)) = true) ∧ ((decide ((0 : Int) ≤ v0) = true ∧ decide ((v0 : Int) < (List.length l0 : Int)) = true) →
   ((decide (((0 + v0) : Int) < (List.length l0 : Int)) = true) ∧ ((decide (((0 + v0) : Int) < (List.length l0 : Int)) = true) →
   ∀ v1 : Int, v1 = (List.getD l0 (Int.toNat (0 + v0)) 0) →
   ∀ v2 : Int, [v2] = T.out 78 1 [v1] →
   ((decide ((v2 : Int) = 1) = true →
    post [v0] []) ∧ (decide ((v2 : Int) = 1) = false →
    (allHas [⟨(-9223372036854775808), 9223372036854775807⟩] [(IntKind.wrap .i64 (v0 + 1))] ∧ I 1 ⟨[], [l0]⟩ ⟨[(IntKind.wrap .i64 (v0 + 1))], []⟩ ∧ M 1 ⟨[], [l0]⟩ ⟨[(IntKind.wrap .i64 (v0 + 1))], []⟩ < M 1 ⟨[], [l0]⟩ ⟨[v0], []⟩)))))))) ∧ (decide ((v0 : Int) < (List.length l0 : Int)) = false →
   post [(-1)] [])))
theorem q93 (T : Tab) (I : Nat → Env → Env → Prop) (M : Nat → Env → Env → Nat) (pre : Nat → List Int → List (List Int) → Prop) (post : List Int → List (List Int) → Prop) (l0 : List Int) : t93.plain T (presG pre I M) post ⟨[], [l0]⟩ = p93 T I M pre post l0 := by kernel_rfl
theorem k93 (T : Tab) (I : Nat → Env → Env → Prop) (M : Nat → Env → Env → Nat) (pre : Nat → List Int → List (List Int) → Prop) (hs : SubSig T c93.sigs) (ht : TotG pre c93.sigs) (hg : T.sig 93 = some s93) (hC : CtAll Try.prog T.fns (presQ pre) c93.sigs) (hk : CpAll Try.prog c93.cps) (hi : ∀ xs ls, allHas (parIvs s93.params) xs → pre 93 xs ls → allHas iv93 xs)
    (h : ∀ (l0 : List Int), allHas iv93 [] → allL (parLvs s93.params) [l0] → pre 93 [] [l0] → p93 T I M pre (fun ys _ => ys = T.app 93 [] [l0]) l0) : CT Try.prog T.fns (presQ pre) 93 s93 :=
  T.ctg (F := ⟨c93, [(2, ⟨1, [8], [], [9, 10, 5, 11, 12, 13, 14, 15, 16, 17, 4, 18], [⟨(-9223372036854775808), 9223372036854775807⟩], []⟩)]⟩) (fuel := 250) vc93 Try.checked.mixed hs ht hg hC hk Try.func93 I M (fun xs ls h1 h2 h3 => ⟨hi xs ls h1 h3, h2⟩) fun xs ls hx hl hp => by
    match xs, ls, hx, hl, hp with
    | [], [l0], hx, hl, hp => rw [q93]; exact h l0 hx hl hp
/-- slices.ContainsFunc[[]int8,int8] -/
def s77 : Sig := ⟨[.lst [.i8], .fnc 78], [(false, [.b])], true⟩
noncomputable def c77 : Cfg := ⟨Try.prog, [(93, s93)], []⟩
def iv77 : List Iv := []
def t77 : VC :=
 (.call 93 (.l (.var 0) .nil) 1
 (.fin (.e (.ite (.le (.lit 0) (.var 0)) (.lit 1) (.lit 0)) .nil)))
theorem vc77 : vcOfI ⟨c77, []⟩ iv77 (parLvs s77.params) 250 Try.f77 s77 = t77 := by kernel_rfl
set_option linter.unusedVariables false in
def p77 (T : Tab) (I : Nat → Env → Env → Prop) (M : Nat → Env → Env → Nat) (pre : Nat → List Int → List (List Int) → Prop) (post : List Int → List (List Int) → Prop) (l0 : List Int) : Prop :=
 ∀ v0 : Int, [v0] = T.outL 93 1 [] [l0] →
 post [(if decide ((0 : Int) ≤ v0) = true then 1 else 0)] []
theorem q77 (T : Tab) (I : Nat → Env → Env → Prop) (M : Nat → Env → Env → Nat) (pre : Nat → List Int → List (List Int) → Prop) (post : List Int → List (List Int) → Prop) (l0 : List Int) : t77.plain T (presG pre I M) post ⟨[], [l0]⟩ = p77 T I M pre post l0 := by kernel_rfl
theorem k77 (T : Tab) (I : Nat → Env → Env → Prop) (M : Nat → Env → Env → Nat) (pre : Nat → List Int → List (List Int) → Prop) (hs : SubSig T c77.sigs) (ht : TotG pre c77.sigs) (hg : T.sig 77 = some s77) (hC : CtAll Try.prog T.fns (presQ pre) c77.sigs) (hk : CpAll Try.prog c77.cps) (hi : ∀ xs ls, allHas (parIvs s77.params) xs → pre 77 xs ls → allHas iv77 xs)
    (h : ∀ (l0 : List Int), allHas iv77 [] → allL (parLvs s77.params) [l0] → pre 77 [] [l0] → p77 T I M pre (fun ys _ => ys = T.app 77 [] [l0]) l0) : CT Try.prog T.fns (presQ pre) 77 s77 :=
  T.ctg (F := ⟨c77, []⟩) (fuel := 250) vc77 Try.checked.mixed hs ht hg hC hk Try.func77 I M (fun xs ls h1 h2 h3 => ⟨hi xs ls h1 h3, h2⟩) fun xs ls hx hl hp => by
    match xs, ls, hx, hl, hp with
    | [], [l0], hx, hl, hp => rw [q77]; exact h l0 hx hl hp
/-- loop.example/g01242/impl.ValidStream -/
def s38 : Sig := ⟨[.lsts [[.i8], [.i8]]], [(false, [.b])], true⟩
noncomputable def c38 : Cfg := ⟨Try.prog, [(77, s77)], []⟩
def iv38 : List Iv := []
def t38 : VC :=
 (.ite (.le (.len (.var 0)) (.lit 16))
  (.ite (.le (.lit 1) (.len (.var 1)))
   (.ite (.lt (.lit 14) (.len (.var 1)))
    (.fin (.e (.lit 0) .nil))
    (.call 77 (.l (.var 0) .nil) 1
    (.ite (.not (.eq (.var 0) (.lit 1)))
     (.call 77 (.l (.var 1) .nil) 1
     (.fin (.e (.ite (.not (.eq (.var 1) (.lit 1))) (.lit 1) (.lit 0)) .nil)))
     (.fin (.e (.lit 0) .nil)))))
   (.fin (.e (.lit 0) .nil)))
  (.fin (.e (.lit 0) .nil)))
theorem vc38 : vcOfI ⟨c38, []⟩ iv38 (parLvs s38.params) 250 Try.f38 s38 = t38 := by kernel_rfl
set_option linter.unusedVariables false in
def p38 (T : Tab) (I : Nat → Env → Env → Prop) (M : Nat → Env → Env → Nat) (pre : Nat → List Int → List (List Int) → Prop) (post : List Int → List (List Int) → Prop) (l0 l1 : List Int) : Prop :=
 ((decide (((List.length l0 : Int) : Int) ≤ 16) = true →
  ((decide ((1 : Int) ≤ (List.length l1 : Int)) = true →
   ((decide ((14 : Int) < (List.length l1 : Int)) = true →
    post [0] []) ∧ (decide ((14 : Int) < (List.length l1 : Int)) = false →
    ∀ v0 : Int, [v0] = T.outL 77 1 [] [l0] →
    (((!decide ((v0 : Int) = 1)) = true →
     ∀ v1 : Int, [v1] = T.outL 77 1 [] [l1] →
     post [(if (!decide ((v1 : Int) = 1)) = true then 1 else 0)] []) ∧ ((!decide ((v0 : Int) = 1)) = false →
     post [0] []))))) ∧ (decide ((1 : Int) ≤ (List.length l1 : Int)) = false →
   post [0] []))) ∧ (decide (((List.length l0 : Int) : Int) ≤ 16) = false →
  post [0] []))
theorem q38 (T : Tab) (I : Nat → Env → Env → Prop) (M : Nat → Env → Env → Nat) (pre : Nat → List Int → List (List Int) → Prop) (post : List Int → List (List Int) → Prop) (l0 l1 : List Int) : t38.plain T (presG pre I M) post ⟨[], [l0, l1]⟩ = p38 T I M pre post l0 l1 := by kernel_rfl
theorem k38 (T : Tab) (I : Nat → Env → Env → Prop) (M : Nat → Env → Env → Nat) (pre : Nat → List Int → List (List Int) → Prop) (hs : SubSig T c38.sigs) (ht : TotG pre c38.sigs) (hg : T.sig 38 = some s38) (hC : CtAll Try.prog T.fns (presQ pre) c38.sigs) (hk : CpAll Try.prog c38.cps) (hi : ∀ xs ls, allHas (parIvs s38.params) xs → pre 38 xs ls → allHas iv38 xs)
    (h : ∀ (l0 l1 : List Int), allHas iv38 [] → allL (parLvs s38.params) [l0, l1] → pre 38 [] [l0, l1] → p38 T I M pre (fun ys _ => ys = T.app 38 [] [l0, l1]) l0 l1) : CT Try.prog T.fns (presQ pre) 38 s38 :=
  T.ctg (F := ⟨c38, []⟩) (fuel := 250) vc38 Try.checked.mixed hs ht hg hC hk Try.func38 I M (fun xs ls h1 h2 h3 => ⟨hi xs ls h1 h3, h2⟩) fun xs ls hx hl hp => by
    match xs, ls, hx, hl, hp with
    | [], [l0, l1], hx, hl, hp => rw [q38]; exact h l0 l1 hx hl hp
/-- loop.example/g01242/laws.FnExactValidStream -/
def s10 : Sig := ⟨[.lsts [[.i8], [.i8]]], [(false, [.b])], true⟩
noncomputable def c10 : Cfg := ⟨Try.prog, [(35, s35), (36, s36), (38, s38), (39, s39)], [(37, s37, y37)]⟩
def iv10 : List Iv := []
def t10 : VC :=
 (.call 35 (.l (.var 0) (.l (.var 1) (.e (.lit 1048576) .nil))) 1
 (.ite (.lt (.var 0) (.lit 0))
  (.fin (.e (.lit 1) .nil))
  (.need [(.b (.le (.len (.var 0)) (.lit 1099511627776))), (.b (.le (.len (.var 1)) (.lit 1099511627776)))]
  (.call 36 (.l (.var 0) (.l (.var 1) .nil)) 1
  (.need [(.b (.le (.len (.var 0)) (.lit 1099511627776))), (.b (.le (.len (.var 1)) (.lit 1099511627776)))]
  (.call 38 (.l (.var 0) (.l (.var 1) .nil)) 1
  (.ite (.not (.beq (.eq (.var 2) (.lit 1)) (.eq (.var 1) (.lit 1))))
   (.fin (.e (.lit 0) .nil))
   (.need [(.b (.le (.len (.var 0)) (.lit 1099511627776))), (.b (.le (.len (.var 1)) (.lit 1099511627776)))]
   (.call 39 (.l (.var 0) (.l (.var 1) (.l (.var 0) (.l (.var 1) .nil)))) 1
   (.ite (.not (.eq (.var 3) (.lit 1)))
    (.fin (.e (.lit 0) .nil))
    (.fin (.e (.lit 1) .nil))))))))))))
theorem vc10 : vcOfI ⟨c10, []⟩ iv10 (parLvs s10.params) 250 Try.f10 s10 = t10 := by kernel_rfl
set_option linter.unusedVariables false in
def p10 (T : Tab) (I : Nat → Env → Env → Prop) (M : Nat → Env → Env → Nat) (pre : Nat → List Int → List (List Int) → Prop) (post : List Int → List (List Int) → Prop) (l0 l1 : List Int) : Prop :=
 ∀ v0 : Int, [v0] = T.outL 35 1 [1048576] [l0, l1] →
 ((decide ((v0 : Int) < 0) = true →
  post [1] []) ∧ (decide ((v0 : Int) < 0) = false →
  ((decide (((List.length l0 : Int) : Int) ≤ 1099511627776) = true ∧ decide (((List.length l1 : Int) : Int) ≤ 1099511627776) = true) ∧ ((decide (((List.length l0 : Int) : Int) ≤ 1099511627776) = true ∧ decide (((List.length l1 : Int) : Int) ≤ 1099511627776) = true) →
  ∀ v1 : Int, [v1] = T.outL 36 1 [] [l0, l1] →
  ((decide (((List.length l0 : Int) : Int) ≤ 1099511627776) = true ∧ decide (((List.length l1 : Int) : Int) ≤ 1099511627776) = true) ∧ ((decide (((List.length l0 : Int) : Int) ≤ 1099511627776) = true ∧ decide (((List.length l1 : Int) : Int) ≤ 1099511627776) = true) →
  ∀ v2 : Int, [v2] = T.outL 38 1 [] [l0, l1] →
  (((!(decide ((v2 : Int) = 1) == decide ((v1 : Int) = 1))) = true →
   post [0] []) ∧ ((!(decide ((v2 : Int) = 1) == decide ((v1 : Int) = 1))) = false →
   ((decide (((List.length l0 : Int) : Int) ≤ 1099511627776) = true ∧ decide (((List.length l1 : Int) : Int) ≤ 1099511627776) = true) ∧ ((decide (((List.length l0 : Int) : Int) ≤ 1099511627776) = true ∧ decide (((List.length l1 : Int) : Int) ≤ 1099511627776) = true) →
   ∀ v3 : Int, [v3] = T.outL 39 1 [] [l0, l1, l0, l1] →
   (((!decide ((v3 : Int) = 1)) = true →
    post [0] []) ∧ ((!decide ((v3 : Int) = 1)) = false →
    post [1] []))))))))))))
theorem q10 (T : Tab) (I : Nat → Env → Env → Prop) (M : Nat → Env → Env → Nat) (pre : Nat → List Int → List (List Int) → Prop) (post : List Int → List (List Int) → Prop) (l0 l1 : List Int) : t10.plain T (presG pre I M) post ⟨[], [l0, l1]⟩ = p10 T I M pre post l0 l1 := by kernel_rfl
theorem k10 (T : Tab) (I : Nat → Env → Env → Prop) (M : Nat → Env → Env → Nat) (pre : Nat → List Int → List (List Int) → Prop) (hs : SubSig T c10.sigs) (ht : TotG pre c10.sigs) (hg : T.sig 10 = some s10) (hC : CtAll Try.prog T.fns (presQ pre) c10.sigs) (hk : CpAll Try.prog c10.cps) (hi : ∀ xs ls, allHas (parIvs s10.params) xs → pre 10 xs ls → allHas iv10 xs)
    (h : ∀ (l0 l1 : List Int), allHas iv10 [] → allL (parLvs s10.params) [l0, l1] → pre 10 [] [l0, l1] → p10 T I M pre (fun ys _ => ys = T.app 10 [] [l0, l1]) l0 l1) : CT Try.prog T.fns (presQ pre) 10 s10 :=
  T.ctg (F := ⟨c10, []⟩) (fuel := 250) vc10 Try.checked.mixed hs ht hg hC hk Try.func10 I M (fun xs ls h1 h2 h3 => ⟨hi xs ls h1 h3, h2⟩) fun xs ls hx hl hp => by
    match xs, ls, hx, hl, hp with
    | [], [l0, l1], hx, hl, hp => rw [q10]; exact h l0 l1 hx hl hp
end Go.Proofs.Ytaknnjlkpepgaaa.Sx
