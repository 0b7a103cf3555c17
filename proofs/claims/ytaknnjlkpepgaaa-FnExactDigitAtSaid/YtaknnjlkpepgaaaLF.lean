import Derived.Test.YtaknnjlkpepgaaaSxT
import Derived.Test.YtaknnjlkpepgaaaLC
import Derived.Test.YtaknnjlkpepgaaaChecked
import Derived.KernelRfl
namespace Go.Proofs.Ytaknnjlkpepgaaa.Sx
open Go Go.RowKit
/-- loop.example/g01242/spec.l03SameList -/
def s94 : Sig := ⟨[.lst [.i8], .lst [.i8]], [(false, [.b])], true⟩
noncomputable def c94 : Cfg := ⟨Try.prog, [], []⟩
def iv94 : List Iv := []
def t94 : VC :=
 (.ite (.not (.eq (.len (.var 0)) (.len (.var 1))))
  (.fin (.e (.lit 0) .nil))
  (.loop 1 [(.lit 0)] [] [⟨(-9223372036854775808), 9223372036854775807⟩] []
   (.ite (.lt (.var 0) (.len (.var 0)))
    (.need [(.b (.le (.lit 0) (.var 0))), (.b (.lt (.var 0) (.len (.var 0)))), (.b (.lt (.add (.lit 0) (.var 0)) (.len (.var 0)))), (.b (.le (.lit 0) (.var 0))), (.b (.lt (.var 0) (.len (.var 1)))), (.b (.lt (.add (.lit 0) (.var 0)) (.len (.var 1))))]
    (.bind (.at (.var 0) (.add (.lit 0) (.var 0)))
    (.bind (.at (.var 1) (.add (.lit 0) (.var 0)))
    (.ite (.not (.eq (.at (.var 0) (.add (.lit 0) (.var 0))) (.at (.var 1) (.add (.lit 0) (.var 0)))))
     (.fin (.e (.lit 0) .nil))
     (.bind (.wrap .i64 (.add (.var 0) (.lit 1)))
     (.again 1 0 2 [⟨(-9223372036854775808), 9223372036854775807⟩] [(.var 3)] []))))))
    (.fin (.e (.lit 1) .nil)))))
theorem vc94 : vcOfI ⟨c94, [(4, ⟨1, [5], [], [11, 12, 13, 14, 17, 18, 19, 20, 21, 22, 23, 24, 25, 4, 15, 16], [⟨(-9223372036854775808), 9223372036854775807⟩], []⟩)]⟩ iv94 (parLvs s94.params) 250 Try.f94 s94 = t94 := by kernel_rfl
set_option linter.unusedVariables false in
def p94 (T : Tab) (I : Nat → Env → Env → Prop) (M : Nat → Env → Env → Nat) (pre : Nat → List Int → List (List Int) → Prop) (post : List Int → List (List Int) → Prop) (l0 l1 : List Int) : Prop :=
 (((!decide (((List.length l0 : Int) : Int) = (List.length l1 : Int))) = true →
  post [0] []) ∧ ((!decide (((List.length l0 : Int) : Int) = (List.length l1 : Int))) = false →
  ((allHas [⟨(-9223372036854775808), 9223372036854775807⟩] [0] ∧ I 1 ⟨[], [l0, l1]⟩ ⟨[0], []⟩) ∧ ∀ v0 : Int, allHas [⟨(-9223372036854775808), 9223372036854775807⟩] [v0] → I 1 ⟨[], [l0, l1]⟩ ⟨[v0], []⟩ →
   ((decide ((v0 : Int) < (List.length l0 : Int)) = true →
    ((decide ((0 : Int) ≤ v0) = true ∧ decide ((v0 : Int) < (List.length l0 : Int)) = true ∧ decide (((0 + v0) : Int) < (List.length l0 : Int)) = true ∧ decide ((0 : Int) ≤ v0) = true ∧ decide ((v0 : Int) < (List.length l1 : Int)) = true ∧ decide (((0 + v0) : Int) < (List.length l1 : Int)) = true) ∧ ((decide ((0 : Int) ≤ v0) = true ∧ decide ((v0 : Int) < (List.length l0 : Int)) = true ∧ decide (((0 + v0) : Int) < (List.length l0 : Int)) = true ∧ decide ((0 : Int) ≤ v0) = true ∧ decide ((v0 : Int) < (List.length l1 : Int)) = true ∧ decide (((0 + v0) : Int) < (List.length l1 : Int)) = true) →
    ∀ v1 : Int, v1 = (List.getD l0 (Int.toNat (0 + v0)) 0) →
    ∀ v2 : Int, v2 = (List.getD l1 (Int.toNat (0 + v0)) 0) →
    (((!decide (((List.getD l0 (Int.toNat (0 + v0)) 0) : Int) = (List.getD l1 (Int.toNat (0 + v0)) 0))) = true →
     post [0] []) ∧ ((!decide (((List.getD l0 (Int.toNat (0 + v0)) 0) : Int) = (List.getD l1 (Int.toNat (0 + v0)) 0))) = false →
     ∀ v3 : Int, v3 = (IntKind.wrap .i64 (v0 + 1)) →
     (allHas [⟨(-9223372036854775808), 9223372036854775807⟩] [v3] ∧ I 1 ⟨[], [l0, l1]⟩ ⟨[v3], []⟩ ∧ M 1 ⟨[], [l0, l1]⟩ ⟨[v3], []⟩ < M 1 ⟨[], [l0, l1]⟩ ⟨[v0], []⟩)))))) ∧ (decide ((v0 : Int) < (List.length l0 : Int)) = false →
    post [1] [])))))
theorem q94 (T : Tab) (I : Nat → Env → Env → Prop) (M : Nat → Env → Env → Nat) (pre : Nat → List Int → List (List Int) → Prop) (post : List Int → List (List Int) → Prop) (l0 l1 : List Int) : t94.plain T (presG pre I M) post ⟨[], [l0, l1]⟩ = p94 T I M pre post l0 l1 := by kernel_rfl
theorem k94 (T : Tab) (I : Nat → Env → Env → Prop) (M : Nat → Env → Env → Nat) (pre : Nat → List Int → List (List Int) → Prop) (hs : SubSig T c94.sigs) (ht : TotG pre c94.sigs) (hg : T.sig 94 = some s94) (hC : CtAll Try.prog T.fns (presQ pre) c94.sigs) (hk : CpAll Try.prog c94.cps) (hi : ∀ xs ls, allHas (parIvs s94.params) xs → pre 94 xs ls → allHas iv94 xs)
    (h : ∀ (l0 l1 : List Int), allHas iv94 [] → allL (parLvs s94.params) [l0, l1] → pre 94 [] [l0, l1] → p94 T I M pre (fun ys _ => ys = T.app 94 [] [l0, l1]) l0 l1) : CT Try.prog T.fns (presQ pre) 94 s94 :=
  T.ctg (F := ⟨c94, [(4, ⟨1, [5], [], [11, 12, 13, 14, 17, 18, 19, 20, 21, 22, 23, 24, 25, 4, 15, 16], [⟨(-9223372036854775808), 9223372036854775807⟩], []⟩)]⟩) (fuel := 250) vc94 Try.checked.mixed hs ht hg hC hk Try.func94 I M (fun xs ls h1 h2 h3 => ⟨hi xs ls h1 h3, h2⟩) fun xs ls hx hl hp => by
    match xs, ls, hx, hl, hp with
    | [], [l0, l1], hx, hl, hp => rw [q94]; exact h l0 l1 hx hl hp
/-- loop.example/g01242/spec.l03Same -/
def s79 : Sig := ⟨[.plsts [[.i8], [.i8]], .plsts [[.i8], [.i8]]], [(false, [.b])], true⟩
noncomputable def c79 : Cfg := ⟨Try.prog, [(94, s94)], []⟩
def iv79 : List Iv := []
def t79 : VC :=
 (.ite (.eq (.app 94 0 (.l (.var 0) (.l (.var 2) .nil))) (.lit 1))
  (.call 94 (.l (.var 0) (.l (.var 2) .nil)) 1
  (.call 94 (.l (.var 1) (.l (.var 3) .nil)) 1
  (.fin (.e (.var 1) .nil))))
  (.call 94 (.l (.var 0) (.l (.var 2) .nil)) 1
  (.fin (.e (.lit 0) .nil))))
theorem vc79 : vcOfI ⟨c79, []⟩ iv79 (parLvs s79.params) 250 Try.f79 s79 = t79 := by kernel_rfl
set_option linter.unusedVariables false in
def p79 (T : Tab) (I : Nat → Env → Env → Prop) (M : Nat → Env → Env → Nat) (pre : Nat → List Int → List (List Int) → Prop) (post : List Int → List (List Int) → Prop) (l0 l1 l2 l3 : List Int) : Prop :=
 ((decide (((List.getD (T.fns 94 [] [l0, l2]).1 0 0) : Int) = 1) = true →
  ∀ v0 : Int, [v0] = T.outL 94 1 [] [l0, l2] →
  ∀ v1 : Int, [v1] = T.outL 94 1 [] [l1, l3] →
  post [v1] []) ∧ (decide (((List.getD (T.fns 94 [] [l0, l2]).1 0 0) : Int) = 1) = false →
  ∀ v0 : Int, [v0] = T.outL 94 1 [] [l0, l2] →
  post [0] []))
theorem q79 (T : Tab) (I : Nat → Env → Env → Prop) (M : Nat → Env → Env → Nat) (pre : Nat → List Int → List (List Int) → Prop) (post : List Int → List (List Int) → Prop) (l0 l1 l2 l3 : List Int) : t79.plain T (presG pre I M) post ⟨[], [l0, l1, l2, l3]⟩ = p79 T I M pre post l0 l1 l2 l3 := by kernel_rfl
theorem k79 (T : Tab) (I : Nat → Env → Env → Prop) (M : Nat → Env → Env → Nat) (pre : Nat → List Int → List (List Int) → Prop) (hs : SubSig T c79.sigs) (ht : TotG pre c79.sigs) (hg : T.sig 79 = some s79) (hC : CtAll Try.prog T.fns (presQ pre) c79.sigs) (hk : CpAll Try.prog c79.cps) (hi : ∀ xs ls, allHas (parIvs s79.params) xs → pre 79 xs ls → allHas iv79 xs)
    (h : ∀ (l0 l1 l2 l3 : List Int), allHas iv79 [] → allL (parLvs s79.params) [l0, l1, l2, l3] → pre 79 [] [l0, l1, l2, l3] → p79 T I M pre (fun ys _ => ys = T.app 79 [] [l0, l1, l2, l3]) l0 l1 l2 l3) : CT Try.prog T.fns (presQ pre) 79 s79 :=
  T.ctg (F := ⟨c79, []⟩) (fuel := 250) vc79 Try.checked.mixed hs ht hg hC hk Try.func79 I M (fun xs ls h1 h2 h3 => ⟨hi xs ls h1 h3, h2⟩) fun xs ls hx hl hp => by
    match xs, ls, hx, hl, hp with
    | [], [l0, l1, l2, l3], hx, hl, hp => rw [q79]; exact h l0 l1 l2 l3 hx hl hp
/-- loop.example/g01242/spec.SameStream -/
def s40 : Sig := ⟨[.lsts [[.i8], [.i8]], .lsts [[.i8], [.i8]]], [(false, [.b])], true⟩
noncomputable def c40 : Cfg := ⟨Try.prog, [(79, s79)], []⟩
def iv40 : List Iv := []
def t40 : VC :=
 (.call 79 (.l (.var 0) (.l (.var 1) (.l (.var 2) (.l (.var 3) .nil)))) 1
 (.fin (.e (.var 0) .nil)))
theorem vc40 : vcOfI ⟨c40, []⟩ iv40 (parLvs s40.params) 250 Try.f40 s40 = t40 := by kernel_rfl
set_option linter.unusedVariables false in
def p40 (T : Tab) (I : Nat → Env → Env → Prop) (M : Nat → Env → Env → Nat) (pre : Nat → List Int → List (List Int) → Prop) (post : List Int → List (List Int) → Prop) (l0 l1 l2 l3 : List Int) : Prop :=
 ∀ v0 : Int, [v0] = T.outL 79 1 [] [l0, l1, l2, l3] →
 post [v0] []
theorem q40 (T : Tab) (I : Nat → Env → Env → Prop) (M : Nat → Env → Env → Nat) (pre : Nat → List Int → List (List Int) → Prop) (post : List Int → List (List Int) → Prop) (l0 l1 l2 l3 : List Int) : t40.plain T (presG pre I M) post ⟨[], [l0, l1, l2, l3]⟩ = p40 T I M pre post l0 l1 l2 l3 := by kernel_rfl
theorem k40 (T : Tab) (I : Nat → Env → Env → Prop) (M : Nat → Env → Env → Nat) (pre : Nat → List Int → List (List Int) → Prop) (hs : SubSig T c40.sigs) (ht : TotG pre c40.sigs) (hg : T.sig 40 = some s40) (hC : CtAll Try.prog T.fns (presQ pre) c40.sigs) (hk : CpAll Try.prog c40.cps) (hi : ∀ xs ls, allHas (parIvs s40.params) xs → pre 40 xs ls → allHas iv40 xs)
    (h : ∀ (l0 l1 l2 l3 : List Int), allHas iv40 [] → allL (parLvs s40.params) [l0, l1, l2, l3] → pre 40 [] [l0, l1, l2, l3] → p40 T I M pre (fun ys _ => ys = T.app 40 [] [l0, l1, l2, l3]) l0 l1 l2 l3) : CT Try.prog T.fns (presQ pre) 40 s40 :=
  T.ctg (F := ⟨c40, []⟩) (fuel := 250) vc40 Try.checked.mixed hs ht hg hC hk Try.func40 I M (fun xs ls h1 h2 h3 => ⟨hi xs ls h1 h3, h2⟩) fun xs ls hx hl hp => by
    match xs, ls, hx, hl, hp with
    | [], [l0, l1, l2, l3], hx, hl, hp => rw [q40]; exact h l0 l1 l2 l3 hx hl hp
/-- slices.Equal[[]int8,int8] -/
def s80 : Sig := ⟨[.lst [.i8], .lst [.i8]], [(false, [.b])], true⟩
noncomputable def c80 : Cfg := ⟨Try.prog, [], []⟩
def iv80 : List Iv := []
def t80 : VC :=
 (.ite (.not (.eq (.len (.var 0)) (.len (.var 1))))
  (.fin (.e (.lit 0) .nil))
  (.loop 1 [(.lit 0)] [] [⟨(-9223372036854775808), 9223372036854775807⟩] []
   (.ite (.lt (.var 0) (.len (.var 0)))
    (.need [(.b (.le (.lit 0) (.var 0))), (.b (.lt (.var 0) (.len (.var 0)))), (.b (.lt (.add (.lit 0) (.var 0)) (.len (.var 0)))), (.b (.le (.lit 0) (.var 0))), (.b (.lt (.var 0) (.len (.var 1)))), (.b (.lt (.add (.lit 0) (.var 0)) (.len (.var 1))))]
    (.bind (.at (.var 0) (.add (.lit 0) (.var 0)))
    (.bind (.at (.var 1) (.add (.lit 0) (.var 0)))
    (.ite (.not (.eq (.at (.var 0) (.add (.lit 0) (.var 0))) (.at (.var 1) (.add (.lit 0) (.var 0)))))
     (.fin (.e (.lit 0) .nil))
     (.again 1 0 2 [⟨(-9223372036854775808), 9223372036854775807⟩] [(.wrap .i64 (.add (.var 0) (.lit 1)))] [])))))
    (.fin (.e (.lit 1) .nil)))))
theorem vc80 : vcOfI ⟨c80, [(4, ⟨1, [13], [], [14, 15, 5, 16, 17, 18, 19, 20, 21, 22, 23, 24, 4, 25], [⟨(-9223372036854775808), 9223372036854775807⟩], []⟩)]⟩ iv80 (parLvs s80.params) 250 Try.f80 s80 = t80 := by kernel_rfl
set_option linter.unusedVariables false in
def p80 (T : Tab) (I : Nat → Env → Env → Prop) (M : Nat → Env → Env → Nat) (pre : Nat → List Int → List (List Int) → Prop) (post : List Int → List (List Int) → Prop) (l0 l1 : List Int) : Prop :=
 (((!decide (((List.length l0 : Int) : Int) = (List.length l1 : Int))) = true →
  post [0] []) ∧ ((!decide (((List.length l0 : Int) : Int) = (List.length l1 : Int))) = false →
  ((allHas [⟨(-9223372036854775808), 9223372036854775807⟩] [0] ∧ I 1 ⟨[], [l0, l1]⟩ ⟨[0], []⟩) ∧ ∀ v0 : Int, allHas [⟨(-9223372036854775808), 9223372036854775807⟩] [v0] → I 1 ⟨[], [l0, l1]⟩ ⟨[v0], []⟩ →
   ((decide ((v0 : Int) < (List.length l0 : Int)) = true →
    ((decide ((0 : Int) ≤ v0) = true ∧ decide ((v0 : Int) < (List.length l0 : Int)) = true ∧ decide (((0 + v0) : Int) < (List.length l0 : Int)) = true ∧ decide ((0 : Int) ≤ v0) = true ∧ decide ((v0 : Int) < (List.length l1 : Int)) = true ∧ decide (((0 + v0) : Int) < (List.length l1 : Int)) = true) ∧ ((decide ((0 : Int) ≤ v0) = true ∧ decide ((v0 : Int) < (List.length l0 : Int)) = true ∧ decide (((0 + v0) : Int) < (List.length l0 : Int)) = true ∧ decide ((0 : Int) ≤ v0) = true ∧ decide ((v0 : Int) < (List.length l1 : Int)) = true ∧ decide (((0 + v0) : Int) < (List.length l1 : Int)) = true) →
    ∀ v1 : Int, v1 = (List.getD l0 (Int.toNat (0 + v0)) 0) →
    ∀ v2 : Int, v2 = (List.getD l1 (Int.toNat (0 + v0)) 0) →
    (((!decide (((List.getD l0 (Int.toNat (0 + v0)) 0) : Int) = (List.getD l1 (Int.toNat (0 + v0)) 0))) = true →
     post [0] []) ∧ ((!decide (((List.getD l0 (Int.toNat (0 + v0)) 0) : Int) = (List.getD l1 (Int.toNat (0 + v0)) 0))) = false →
     (allHas [⟨(-9223372036854775808), 9223372036854775807⟩] [(IntKind.wrap .i64 (v0 + 1))] ∧ I 1 ⟨[], [l0, l1]⟩ ⟨[(IntKind.wrap .i64 (v0 + 1))], []⟩ ∧ M 1 ⟨[], [l0, l1]⟩ ⟨[(IntKind.wrap .i64 (v0 + 1))], []⟩ < M 1 ⟨[], [l0, l1]⟩ ⟨[v0], []⟩)))))) ∧ (decide ((v0 : Int) < (List.length l0 : Int)) = false →
    post [1] [])))))
theorem q80 (T : Tab) (I : Nat → Env → Env → Prop) (M : Nat → Env → Env → Nat) (pre : Nat → List Int → List (List Int) → Prop) (post : List Int → List (List Int) → Prop) (l0 l1 : List Int) : t80.plain T (presG pre I M) post ⟨[], [l0, l1]⟩ = p80 T I M pre post l0 l1 := by kernel_rfl
theorem k80 (T : Tab) (I : Nat → Env → Env → Prop) (M : Nat → Env → Env → Nat) (pre : Nat → List Int → List (List Int) → Prop) (hs : SubSig T c80.sigs) (ht : TotG pre c80.sigs) (hg : T.sig 80 = some s80) (hC : CtAll Try.prog T.fns (presQ pre) c80.sigs) (hk : CpAll Try.prog c80.cps) (hi : ∀ xs ls, allHas (parIvs s80.params) xs → pre 80 xs ls → allHas iv80 xs)
    (h : ∀ (l0 l1 : List Int), allHas iv80 [] → allL (parLvs s80.params) [l0, l1] → pre 80 [] [l0, l1] → p80 T I M pre (fun ys _ => ys = T.app 80 [] [l0, l1]) l0 l1) : CT Try.prog T.fns (presQ pre) 80 s80 :=
  T.ctg (F := ⟨c80, [(4, ⟨1, [13], [], [14, 15, 5, 16, 17, 18, 19, 20, 21, 22, 23, 24, 4, 25], [⟨(-9223372036854775808), 9223372036854775807⟩], []⟩)]⟩) (fuel := 250) vc80 Try.checked.mixed hs ht hg hC hk Try.func80 I M (fun xs ls h1 h2 h3 => ⟨hi xs ls h1 h3, h2⟩) fun xs ls hx hl hp => by
    match xs, ls, hx, hl, hp with
    | [], [l0, l1], hx, hl, hp => rw [q80]; exact h l0 l1 hx hl hp
/-- loop.example/g01242/impl.SameStream -/
def s41 : Sig := ⟨[.lsts [[.i8], [.i8]], .lsts [[.i8], [.i8]]], [(false, [.b])], true⟩
noncomputable def c41 : Cfg := ⟨Try.prog, [(80, s80)], []⟩
def iv41 : List Iv := []
def t41 : VC :=
 (.call 80 (.l (.var 0) (.l (.var 2) .nil)) 1
 (.ite (.eq (.var 0) (.lit 1))
  (.call 80 (.l (.var 1) (.l (.var 3) .nil)) 1
  (.fin (.e (.var 1) .nil)))
  (.fin (.e (.lit 0) .nil))))
theorem vc41 : vcOfI ⟨c41, []⟩ iv41 (parLvs s41.params) 250 Try.f41 s41 = t41 := by kernel_rfl
set_option linter.unusedVariables false in
def p41 (T : Tab) (I : Nat → Env → Env → Prop) (M : Nat → Env → Env → Nat) (pre : Nat → List Int → List (List Int) → Prop) (post : List Int → List (List Int) → Prop) (l0 l1 l2 l3 : List Int) : Prop :=
 ∀ v0 : Int, [v0] = T.outL 80 1 [] [l0, l2] →
 ((decide ((v0 : Int) = 1) = true →
  ∀ v1 : Int, [v1] = T.outL 80 1 [] [l1, l3] →
  post [v1] []) ∧ (decide ((v0 : Int) = 1) = false →
  post [0] []))
theorem q41 (T : Tab) (I : Nat → Env → Env → Prop) (M : Nat → Env → Env → Nat) (pre : Nat → List Int → List (List Int) → Prop) (post : List Int → List (List Int) → Prop) (l0 l1 l2 l3 : List Int) : t41.plain T (presG pre I M) post ⟨[], [l0, l1, l2, l3]⟩ = p41 T I M pre post l0 l1 l2 l3 := by kernel_rfl
theorem k41 (T : Tab) (I : Nat → Env → Env → Prop) (M : Nat → Env → Env → Nat) (pre : Nat → List Int → List (List Int) → Prop) (hs : SubSig T c41.sigs) (ht : TotG pre c41.sigs) (hg : T.sig 41 = some s41) (hC : CtAll Try.prog T.fns (presQ pre) c41.sigs) (hk : CpAll Try.prog c41.cps) (hi : ∀ xs ls, allHas (parIvs s41.params) xs → pre 41 xs ls → allHas iv41 xs)
    (h : ∀ (l0 l1 l2 l3 : List Int), allHas iv41 [] → allL (parLvs s41.params) [l0, l1, l2, l3] → pre 41 [] [l0, l1, l2, l3] → p41 T I M pre (fun ys _ => ys = T.app 41 [] [l0, l1, l2, l3]) l0 l1 l2 l3) : CT Try.prog T.fns (presQ pre) 41 s41 :=
  T.ctg (F := ⟨c41, []⟩) (fuel := 250) vc41 Try.checked.mixed hs ht hg hC hk Try.func41 I M (fun xs ls h1 h2 h3 => ⟨hi xs ls h1 h3, h2⟩) fun xs ls hx hl hp => by
    match xs, ls, hx, hl, hp with
    | [], [l0, l1, l2, l3], hx, hl, hp => rw [q41]; exact h l0 l1 l2 l3 hx hl hp
/-- loop.example/g01242/laws.FnExactSameStream -/
def s11 : Sig := ⟨[.lsts [[.i8], [.i8]], .lsts [[.i8], [.i8]]], [(false, [.b])], true⟩
noncomputable def c11 : Cfg := ⟨Try.prog, [(35, s35), (40, s40), (41, s41), (39, s39)], [(37, s37, y37)]⟩
def iv11 : List Iv := []
def t11 : VC :=
 (.call 35 (.l (.var 0) (.l (.var 1) (.e (.lit 1048576) .nil))) 1
 (.ite (.lt (.var 0) (.lit 0))
  (.fin (.e (.lit 1) .nil))
  (.call 35 (.l (.var 2) (.l (.var 3) (.e (.var 0) .nil))) 1
  (.ite (.lt (.var 1) (.lit 0))
   (.fin (.e (.lit 1) .nil))
   (.need [(.b (.le (.len (.var 0)) (.lit 1099511627776))), (.b (.le (.len (.var 1)) (.lit 1099511627776))), (.b (.le (.len (.var 2)) (.lit 1099511627776))), (.b (.le (.len (.var 3)) (.lit 1099511627776)))]
   (.call 40 (.l (.var 0) (.l (.var 1) (.l (.var 2) (.l (.var 3) .nil)))) 1
   (.need [(.b (.le (.len (.var 0)) (.lit 1099511627776))), (.b (.le (.len (.var 1)) (.lit 1099511627776)))]
   (.need [(.b (.le (.len (.var 2)) (.lit 1099511627776))), (.b (.le (.len (.var 3)) (.lit 1099511627776)))]
   (.call 41 (.l (.var 0) (.l (.var 1) (.l (.var 2) (.l (.var 3) .nil)))) 1
   (.ite (.not (.beq (.eq (.var 3) (.lit 1)) (.eq (.var 2) (.lit 1))))
    (.fin (.e (.lit 0) .nil))
    (.need [(.b (.le (.len (.var 0)) (.lit 1099511627776))), (.b (.le (.len (.var 1)) (.lit 1099511627776)))]
    (.call 39 (.l (.var 0) (.l (.var 1) (.l (.var 0) (.l (.var 1) .nil)))) 1
    (.ite (.not (.eq (.var 4) (.lit 1)))
     (.fin (.e (.lit 0) .nil))
     (.need [(.b (.le (.len (.var 2)) (.lit 1099511627776))), (.b (.le (.len (.var 3)) (.lit 1099511627776)))]
     (.call 39 (.l (.var 2) (.l (.var 3) (.l (.var 2) (.l (.var 3) .nil)))) 1
     (.ite (.not (.eq (.var 5) (.lit 1)))
      (.fin (.e (.lit 0) .nil))
      (.fin (.e (.lit 1) .nil))))))))))))))))))
theorem vc11 : vcOfI ⟨c11, []⟩ iv11 (parLvs s11.params) 250 Try.f11 s11 = t11 := by kernel_rfl
set_option linter.unusedVariables false in
def p11 (T : Tab) (I : Nat → Env → Env → Prop) (M : Nat → Env → Env → Nat) (pre : Nat → List Int → List (List Int) → Prop) (post : List Int → List (List Int) → Prop) (l0 l1 l2 l3 : List Int) : Prop :=
 ∀ v0 : Int, [v0] = T.outL 35 1 [1048576] [l0, l1] →
 ((decide ((v0 : Int) < 0) = true →
  post [1] []) ∧ (decide ((v0 : Int) < 0) = false →
  ∀ v1 : Int, [v1] = T.outL 35 1 [v0] [l2, l3] →
  ((decide ((v1 : Int) < 0) = true →
   post [1] []) ∧ (decide ((v1 : Int) < 0) = false →
   ((decide (((List.length l0 : Int) : Int) ≤ 1099511627776) = true ∧ decide (((List.length l1 : Int) : Int) ≤ 1099511627776) = true ∧ decide (((List.length l2 : Int) : Int) ≤ 1099511627776) = true ∧ decide (((List.length l3 : Int) : Int) ≤ 1099511627776) = true) ∧ ((decide (((List.length l0 : Int) : Int) ≤ 1099511627776) = true ∧ decide (((List.length l1 : Int) : Int) ≤ 1099511627776) = true ∧ decide (((List.length l2 : Int) : Int) ≤ 1099511627776) = true ∧ decide (((List.length l3 : Int) : Int) ≤ 1099511627776) = true) →
   ∀ v2 : Int, [v2] = T.outL 40 1 [] [l0, l1, l2, l3] →
   ((decide (((List.length l0 : Int) : Int) ≤ 1099511627776) = true ∧ decide (((List.length l1 : Int) : Int) ≤ 1099511627776) = true) ∧ ((decide (((List.length l0 : Int) : Int) ≤ 1099511627776) = true ∧ decide (((List.length l1 : Int) : Int) ≤ 1099511627776) = true) →
   ((decide (((List.length l2 : Int) : Int) ≤ 1099511627776) = true ∧ decide (((List.length l3 : Int) : Int) ≤ 1099511627776) = true) ∧ ((decide (((List.length l2 : Int) : Int) ≤ 1099511627776) = true ∧ decide (((List.length l3 : Int) : Int) ≤ 1099511627776) = true) →
   ∀ v3 : Int, [v3] = T.outL 41 1 [] [l0, l1, l2, l3] →
   (((!(decide ((v3 : Int) = 1) == decide ((v2 : Int) = 1))) = true →
    post [0] []) ∧ ((!(decide ((v3 : Int) = 1) == decide ((v2 : Int) = 1))) = false →
    ((decide (((List.length l0 : Int) : Int) ≤ 1099511627776) = true ∧ decide (((List.length l1 : Int) : Int) ≤ 1099511627776) = true) ∧ ((decide (((List.length l0 : Int) : Int) ≤ 1099511627776) = true ∧ decide (((List.length l1 : Int) : Int) ≤ 1099511627776) = true) →
    ∀ v4 : Int, [v4] = T.outL 39 1 [] [l0, l1, l0, l1] →
    (((!decide ((v4 : Int) = 1)) = true →
     post [0] []) ∧ ((!decide ((v4 : Int) = 1)) = false →
     ((decide (((List.length l2 : Int) : Int) ≤ 1099511627776) = true ∧ decide (((List.length l3 : Int) : Int) ≤ 1099511627776) = true) ∧ ((decide (((List.length l2 : Int) : Int) ≤ 1099511627776) = true ∧ decide (((List.length l3 : Int) : Int) ≤ 1099511627776) = true) →
     ∀ v5 : Int, [v5] = T.outL 39 1 [] [l2, l3, l2, l3] →
     (((!decide ((v5 : Int) = 1)) = true →
      post [0] []) ∧ ((!decide ((v5 : Int) = 1)) = false →
      post [1] []))))))))))))))))))))
theorem q11 (T : Tab) (I : Nat → Env → Env → Prop) (M : Nat → Env → Env → Nat) (pre : Nat → List Int → List (List Int) → Prop) (post : List Int → List (List Int) → Prop) (l0 l1 l2 l3 : List Int) : t11.plain T (presG pre I M) post ⟨[], [l0, l1, l2, l3]⟩ = p11 T I M pre post l0 l1 l2 l3 := by kernel_rfl
theorem k11 (T : Tab) (I : Nat → Env → Env → Prop) (M : Nat → Env → Env → Nat) (pre : Nat → List Int → List (List Int) → Prop) (hs : SubSig T c11.sigs) (ht : TotG pre c11.sigs) (hg : T.sig 11 = some s11) (hC : CtAll Try.prog T.fns (presQ pre) c11.sigs) (hk : CpAll Try.prog c11.cps) (hi : ∀ xs ls, allHas (parIvs s11.params) xs → pre 11 xs ls → allHas iv11 xs)
    (h : ∀ (l0 l1 l2 l3 : List Int), allHas iv11 [] → allL (parLvs s11.params) [l0, l1, l2, l3] → pre 11 [] [l0, l1, l2, l3] → p11 T I M pre (fun ys _ => ys = T.app 11 [] [l0, l1, l2, l3]) l0 l1 l2 l3) : CT Try.prog T.fns (presQ pre) 11 s11 :=
  T.ctg (F := ⟨c11, []⟩) (fuel := 250) vc11 Try.checked.mixed hs ht hg hC hk Try.func11 I M (fun xs ls h1 h2 h3 => ⟨hi xs ls h1 h3, h2⟩) fun xs ls hx hl hp => by
    match xs, ls, hx, hl, hp with
    | [], [l0, l1, l2, l3], hx, hl, hp => rw [q11]; exact h l0 l1 l2 l3 hx hl hp
end Go.Proofs.Ytaknnjlkpepgaaa.Sx
