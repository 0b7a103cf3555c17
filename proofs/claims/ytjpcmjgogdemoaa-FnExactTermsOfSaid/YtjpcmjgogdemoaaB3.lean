import Derived.Test.YtjpcmjgogdemoaaSxY
import Derived.Test.YtjpcmjgogdemoaaA1
import Derived.Test.YtjpcmjgogdemoaaB1
import Derived.Test.YtjpcmjgogdemoaaChecked
import Derived.KernelRfl
namespace Go.Proofs.Ytjpcmjgogdemoaa.Sx
open Go Go.RowKit
/-- loop.example/g01242/laws.toRatio -/
def s36 : Sig := ⟨[.val true [.i .i64, .i .i64]], [(true, [.i .i64, .i .i64])], true⟩
noncomputable def c36 : Cfg := ⟨Try.prog, [], [], [], []⟩
def iv36 : List Iv := [⟨(-9223372036854775808), 9223372036854775807⟩, ⟨(-9223372036854775808), 9223372036854775807⟩]
def t36 : VC :=
 (.fin (.e (.var 0) (.e (.var 1) .nil)))
theorem vc36 : vcOfI ⟨c36, []⟩ iv36 (parLvs s36.params) 250 Try.f36 s36 = t36 := by kernel_rfl
set_option linter.unusedVariables false in
def p36 (T : Tab) (I : Nat → Env → Env → Prop) (M : Nat → Env → Env → Nat) (pre : Nat → List Int → List (List Int) → Prop) (post : List Int → List (List Int) → Prop) (v0 v1 : Int) : Prop :=
 post [v0, v1] []
theorem q36 (T : Tab) (I : Nat → Env → Env → Prop) (M : Nat → Env → Env → Nat) (pre : Nat → List Int → List (List Int) → Prop) (post : List Int → List (List Int) → Prop) (v0 v1 : Int) : t36.plain T (presG pre I M) post ⟨[v0, v1], []⟩ = p36 T I M pre post v0 v1 := by kernel_rfl
theorem k36 (T : Tab) (I : Nat → Env → Env → Prop) (M : Nat → Env → Env → Nat) (pre : Nat → List Int → List (List Int) → Prop) (hs : SubSig T c36.sigs) (ht : TotG pre c36.sigs) (hg : T.sig 36 = some s36) (hC : CtAll Try.prog T.fns (presQ pre) c36.sigs) (hk : CpAll Try.prog c36.cps) (hi : ∀ xs ls, allHas (parIvs s36.params) xs → pre 36 xs ls → allHas iv36 xs)
    (h : ∀ (v0 v1 : Int), allHas iv36 [v0, v1] → allL (parLvs s36.params) [] → pre 36 [v0, v1] [] → p36 T I M pre (fun ys _ => ys = T.app 36 [v0, v1] []) v0 v1) : CT Try.prog T.fns (presQ pre) 36 s36 :=
  T.ctg (F := ⟨c36, []⟩) (fuel := 250) vc36 Try.checked.mixed hs ht hg hC hk Try.func36 I M (fun xs ls h1 h2 h3 => ⟨hi xs ls h1 h3, h2⟩) fun xs ls hx hl hp => by
    match xs, ls, hx, hl, hp with
    | [v0, v1], [], hx, hl, hp => rw [q36]; exact h v0 v1 hx hl hp
/-- loop.example/g01242/impl.ValidRatio -/
def s87 : Sig := ⟨[.val true [.i .i64, .i .i64]], [(false, [.b])], true⟩
noncomputable def c87 : Cfg := ⟨Try.prog, [(67, s67)], [], [], []⟩
def iv87 : List Iv := [⟨(-9223372036854775808), 9223372036854775807⟩, ⟨(-9223372036854775808), 9223372036854775807⟩]
def t87 : VC :=
 (.call 67 (.e (.var 0) (.e (.var 1) .nil)) 3
 (.ite (.eq (.var 4) (.lit 0))
  (.bind (.ite (.and (.eq (.var 2) (.var 0)) (.eq (.var 3) (.var 1))) (.lit 1) (.lit 0))
  (.fin (.e (.var 5) .nil)))
  (.fin (.e (.lit 0) .nil))))
theorem vc87 : vcOfI ⟨c87, []⟩ iv87 (parLvs s87.params) 250 Try.f87 s87 = t87 := by kernel_rfl
set_option linter.unusedVariables false in
def p87 (T : Tab) (I : Nat → Env → Env → Prop) (M : Nat → Env → Env → Nat) (pre : Nat → List Int → List (List Int) → Prop) (post : List Int → List (List Int) → Prop) (v0 v1 : Int) : Prop :=
 ∀ v2 v3 v4 : Int, [v2, v3, v4] = T.out 67 3 [v0, v1] →
 ((decide ((v4 : Int) = 0) = true →
  ∀ v5 : Int, v5 = (if (decide ((v2 : Int) = v0) && decide ((v3 : Int) = v1)) = true then 1 else 0) →
  post [v5] []) ∧ (decide ((v4 : Int) = 0) = false →
  post [0] []))
theorem q87 (T : Tab) (I : Nat → Env → Env → Prop) (M : Nat → Env → Env → Nat) (pre : Nat → List Int → List (List Int) → Prop) (post : List Int → List (List Int) → Prop) (v0 v1 : Int) : t87.plain T (presG pre I M) post ⟨[v0, v1], []⟩ = p87 T I M pre post v0 v1 := by kernel_rfl
theorem k87 (T : Tab) (I : Nat → Env → Env → Prop) (M : Nat → Env → Env → Nat) (pre : Nat → List Int → List (List Int) → Prop) (hs : SubSig T c87.sigs) (ht : TotG pre c87.sigs) (hg : T.sig 87 = some s87) (hC : CtAll Try.prog T.fns (presQ pre) c87.sigs) (hk : CpAll Try.prog c87.cps) (hi : ∀ xs ls, allHas (parIvs s87.params) xs → pre 87 xs ls → allHas iv87 xs)
    (h : ∀ (v0 v1 : Int), allHas iv87 [v0, v1] → allL (parLvs s87.params) [] → pre 87 [v0, v1] [] → p87 T I M pre (fun ys _ => ys = T.app 87 [v0, v1] []) v0 v1) : CT Try.prog T.fns (presQ pre) 87 s87 :=
  T.ctg (F := ⟨c87, []⟩) (fuel := 250) vc87 Try.checked.mixed hs ht hg hC hk Try.func87 I M (fun xs ls h1 h2 h3 => ⟨hi xs ls h1 h3, h2⟩) fun xs ls hx hl hp => by
    match xs, ls, hx, hl, hp with
    | [v0, v1], [], hx, hl, hp => rw [q87]; exact h v0 v1 hx hl hp
/-- loop.example/g01242/spec.l04Most -/
def s80 : Sig := ⟨[.ptr [.i .i64, .i .i64], .val false [.i .i64]], [(false, [.i .i64])], true⟩
noncomputable def c80 : Cfg := ⟨Try.prog, [(95, s95), (89, s89)], [], [], []⟩
def iv80 : List Iv := [⟨(-9223372036854775808), 9223372036854775807⟩, ⟨(-9223372036854775808), 9223372036854775807⟩, ⟨(-9223372036854775808), 9223372036854775807⟩]
def t80 : VC :=
 (.call 95 (.e (.var 0) (.e (.var 1) .nil)) 1
 (.ite (.not (.eq (.var 3) (.lit 1)))
  (.fin (.e (.lit 1) .nil))
  (.call 89 (.e (.var 2) (.e (.lit 1) (.e (.lit 100000) .nil))) 1
  (.ite (.not (.eq (.var 4) (.lit 1)))
   (.fin (.e (.lit 2) .nil))
   (.fin (.e (.lit 0) .nil))))))
theorem vc80 : vcOfI ⟨c80, []⟩ iv80 (parLvs s80.params) 250 Try.f80 s80 = t80 := by kernel_rfl
set_option linter.unusedVariables false in
def p80 (T : Tab) (I : Nat → Env → Env → Prop) (M : Nat → Env → Env → Nat) (pre : Nat → List Int → List (List Int) → Prop) (post : List Int → List (List Int) → Prop) (v0 v1 v2 : Int) : Prop :=
 ∀ v3 : Int, [v3] = T.out 95 1 [v0, v1] →
 (((!decide ((v3 : Int) = 1)) = true →
  post [1] []) ∧ ((!decide ((v3 : Int) = 1)) = false →
  ∀ v4 : Int, [v4] = T.out 89 1 [v2, 1, 100000] →
  (((!decide ((v4 : Int) = 1)) = true →
   post [2] []) ∧ ((!decide ((v4 : Int) = 1)) = false →
   post [0] []))))
theorem q80 (T : Tab) (I : Nat → Env → Env → Prop) (M : Nat → Env → Env → Nat) (pre : Nat → List Int → List (List Int) → Prop) (post : List Int → List (List Int) → Prop) (v0 v1 v2 : Int) : t80.plain T (presG pre I M) post ⟨[v0, v1, v2], []⟩ = p80 T I M pre post v0 v1 v2 := by kernel_rfl
theorem k80 (T : Tab) (I : Nat → Env → Env → Prop) (M : Nat → Env → Env → Nat) (pre : Nat → List Int → List (List Int) → Prop) (hs : SubSig T c80.sigs) (ht : TotG pre c80.sigs) (hg : T.sig 80 = some s80) (hC : CtAll Try.prog T.fns (presQ pre) c80.sigs) (hk : CpAll Try.prog c80.cps) (hi : ∀ xs ls, allHas (parIvs s80.params) xs → pre 80 xs ls → allHas iv80 xs)
    (h : ∀ (v0 v1 v2 : Int), allHas iv80 [v0, v1, v2] → allL (parLvs s80.params) [] → pre 80 [v0, v1, v2] [] → p80 T I M pre (fun ys _ => ys = T.app 80 [v0, v1, v2] []) v0 v1 v2) : CT Try.prog T.fns (presQ pre) 80 s80 :=
  T.ctg (F := ⟨c80, []⟩) (fuel := 250) vc80 Try.checked.mixed hs ht hg hC hk Try.func80 I M (fun xs ls h1 h2 h3 => ⟨hi xs ls h1 h3, h2⟩) fun xs ls hx hl hp => by
    match xs, ls, hx, hl, hp with
    | [v0, v1, v2], [], hx, hl, hp => rw [q80]; exact h v0 v1 v2 hx hl hp
/-- loop.example/g01242/impl.boundRefusal -/
def s83 : Sig := ⟨[.val true [.i .i64, .i .i64], .val false [.i .i64]], [(false, [.i .i64])], true⟩
noncomputable def c83 : Cfg := ⟨Try.prog, [(87, s87)], [], [], []⟩
def iv83 : List Iv := [⟨(-9223372036854775808), 9223372036854775807⟩, ⟨(-9223372036854775808), 9223372036854775807⟩, ⟨(-9223372036854775808), 9223372036854775807⟩]
def t83 : VC :=
 (.call 87 (.e (.var 0) (.e (.var 1) .nil)) 1
 (.ite (.not (.eq (.var 3) (.lit 1)))
  (.fin (.e (.lit 1) .nil))
  (.ite (.le (.lit 1) (.var 2))
   (.ite (.lt (.lit 100000) (.var 2))
    (.fin (.e (.lit 2) .nil))
    (.fin (.e (.lit 0) .nil)))
   (.fin (.e (.lit 2) .nil)))))
theorem vc83 : vcOfI ⟨c83, []⟩ iv83 (parLvs s83.params) 250 Try.f83 s83 = t83 := by kernel_rfl
set_option linter.unusedVariables false in
def p83 (T : Tab) (I : Nat → Env → Env → Prop) (M : Nat → Env → Env → Nat) (pre : Nat → List Int → List (List Int) → Prop) (post : List Int → List (List Int) → Prop) (v0 v1 v2 : Int) : Prop :=
 ∀ v3 : Int, [v3] = T.out 87 1 [v0, v1] →
 (((!decide ((v3 : Int) = 1)) = true →
  post [1] []) ∧ ((!decide ((v3 : Int) = 1)) = false →
  ((decide ((1 : Int) ≤ v2) = true →
   ((decide ((100000 : Int) < v2) = true →
    post [2] []) ∧ (decide ((100000 : Int) < v2) = false →
    post [0] []))) ∧ (decide ((1 : Int) ≤ v2) = false →
   post [2] []))))
theorem q83 (T : Tab) (I : Nat → Env → Env → Prop) (M : Nat → Env → Env → Nat) (pre : Nat → List Int → List (List Int) → Prop) (post : List Int → List (List Int) → Prop) (v0 v1 v2 : Int) : t83.plain T (presG pre I M) post ⟨[v0, v1, v2], []⟩ = p83 T I M pre post v0 v1 v2 := by kernel_rfl
theorem k83 (T : Tab) (I : Nat → Env → Env → Prop) (M : Nat → Env → Env → Nat) (pre : Nat → List Int → List (List Int) → Prop) (hs : SubSig T c83.sigs) (ht : TotG pre c83.sigs) (hg : T.sig 83 = some s83) (hC : CtAll Try.prog T.fns (presQ pre) c83.sigs) (hk : CpAll Try.prog c83.cps) (hi : ∀ xs ls, allHas (parIvs s83.params) xs → pre 83 xs ls → allHas iv83 xs)
    (h : ∀ (v0 v1 v2 : Int), allHas iv83 [v0, v1, v2] → allL (parLvs s83.params) [] → pre 83 [v0, v1, v2] [] → p83 T I M pre (fun ys _ => ys = T.app 83 [v0, v1, v2] []) v0 v1 v2) : CT Try.prog T.fns (presQ pre) 83 s83 :=
  T.ctg (F := ⟨c83, []⟩) (fuel := 250) vc83 Try.checked.mixed hs ht hg hC hk Try.func83 I M (fun xs ls h1 h2 h3 => ⟨hi xs ls h1 h3, h2⟩) fun xs ls hx hl hp => by
    match xs, ls, hx, hl, hp with
    | [v0, v1, v2], [], hx, hl, hp => rw [q83]; exact h v0 v1 v2 hx hl hp
/-- loop.example/g01242/spec.l04Floor -/
def s81 : Sig := ⟨[.val false [.i .i64], .val false [.i .i64]], [(false, [.i .i64])], false⟩
noncomputable def c81 : Cfg := ⟨Try.prog, [], [], [], []⟩
def iv81 : List Iv := [⟨(-9223372036854775808), 9223372036854775807⟩, ⟨(-9223372036854775808), 9223372036854775807⟩]
def t81 : VC :=
 (.need [(.b (.not (.eq (.var 1) (.lit 0))))]
 (.bind (.wrap .i64 (.tdiv (.var 0) (.var 1)))
 (.need [(.b (.not (.eq (.var 1) (.lit 0))))]
 (.ite (.not (.eq (.tmod (.var 0) (.var 1)) (.lit 0)))
  (.ite (.not (.beq (.lt (.var 0) (.lit 0)) (.lt (.var 1) (.lit 0))))
   (.bind (.wrap .i64 (.sub (.var 2) (.lit 1)))
   (.fin (.e (.var 3) .nil)))
   (.fin (.e (.var 2) .nil)))
  (.fin (.e (.var 2) .nil))))))
theorem vc81 : vcOfI ⟨c81, []⟩ iv81 (parLvs s81.params) 250 Try.f81 s81 = t81 := by kernel_rfl
set_option linter.unusedVariables false in
def p81 (T : Tab) (I : Nat → Env → Env → Prop) (M : Nat → Env → Env → Nat) (pre : Nat → List Int → List (List Int) → Prop) (post : List Int → List (List Int) → Prop) (v0 v1 : Int) : Prop :=
 (((!decide ((v1 : Int) = 0)) = true) ∧ (((!decide ((v1 : Int) = 0)) = true) →
 ∀ v2 : Int, v2 = (IntKind.wrap .i64 (Int.tdiv v0 v1)) →
 (((!decide ((v1 : Int) = 0)) = true) ∧ (((!decide ((v1 : Int) = 0)) = true) →
 (((!decide (((Int.tmod v0 v1) : Int) = 0)) = true →
  (((!(decide ((v0 : Int) < 0) == decide ((v1 : Int) < 0))) = true →
   ∀ v3 : Int, v3 = (IntKind.wrap .i64 (v2 - 1)) →
   post [v3] []) ∧ ((!(decide ((v0 : Int) < 0) == decide ((v1 : Int) < 0))) = false →
   post [v2] []))) ∧ ((!decide (((Int.tmod v0 v1) : Int) = 0)) = false →
  post [v2] []))))))
theorem q81 (T : Tab) (I : Nat → Env → Env → Prop) (M : Nat → Env → Env → Nat) (pre : Nat → List Int → List (List Int) → Prop) (post : List Int → List (List Int) → Prop) (v0 v1 : Int) : t81.plain T (presG pre I M) post ⟨[v0, v1], []⟩ = p81 T I M pre post v0 v1 := by kernel_rfl
theorem k81 (T : Tab) (I : Nat → Env → Env → Prop) (M : Nat → Env → Env → Nat) (pre : Nat → List Int → List (List Int) → Prop) (hs : SubSig T c81.sigs) (ht : TotG pre c81.sigs) (hg : T.sig 81 = some s81) (hC : CtAll Try.prog T.fns (presQ pre) c81.sigs) (hk : CpAll Try.prog c81.cps) (hi : ∀ xs ls, allHas (parIvs s81.params) xs → pre 81 xs ls → allHas iv81 xs)
    (h : ∀ (v0 v1 : Int), allHas iv81 [v0, v1] → allL (parLvs s81.params) [] → pre 81 [v0, v1] [] → p81 T I M pre (fun ys _ => ys = T.app 81 [v0, v1] []) v0 v1) : CT Try.prog T.fns (presQ pre) 81 s81 :=
  T.ctg (F := ⟨c81, []⟩) (fuel := 250) vc81 Try.checked.mixed hs ht hg hC hk Try.func81 I M (fun xs ls h1 h2 h3 => ⟨hi xs ls h1 h3, h2⟩) fun xs ls hx hl hp => by
    match xs, ls, hx, hl, hp with
    | [v0, v1], [], hx, hl, hp => rw [q81]; exact h v0 v1 hx hl hp
/-- loop.example/g01242/impl.floorOf -/
def s96 : Sig := ⟨[.val false [.i .i64], .val false [.i .i64]], [(false, [.i .i64])], false⟩
noncomputable def c96 : Cfg := ⟨Try.prog, [], [], [], []⟩
def iv96 : List Iv := [⟨(-9223372036854775808), 9223372036854775807⟩, ⟨(-9223372036854775808), 9223372036854775807⟩]
def t96 : VC :=
 (.need [(.b (.not (.eq (.var 1) (.lit 0))))]
 (.bind (.wrap .i64 (.tdiv (.var 0) (.var 1)))
 (.need [(.b (.not (.eq (.var 1) (.lit 0))))]
 (.ite (.not (.eq (.tmod (.var 0) (.var 1)) (.lit 0)))
  (.ite (.not (.beq (.lt (.var 0) (.lit 0)) (.lt (.var 1) (.lit 0))))
   (.bind (.wrap .i64 (.sub (.var 2) (.lit 1)))
   (.fin (.e (.var 3) .nil)))
   (.fin (.e (.var 2) .nil)))
  (.fin (.e (.var 2) .nil))))))
theorem vc96 : vcOfI ⟨c96, []⟩ iv96 (parLvs s96.params) 250 Try.f96 s96 = t96 := by kernel_rfl
set_option linter.unusedVariables false in
def p96 (T : Tab) (I : Nat → Env → Env → Prop) (M : Nat → Env → Env → Nat) (pre : Nat → List Int → List (List Int) → Prop) (post : List Int → List (List Int) → Prop) (v0 v1 : Int) : Prop :=
 (((!decide ((v1 : Int) = 0)) = true) ∧ (((!decide ((v1 : Int) = 0)) = true) →
 ∀ v2 : Int, v2 = (IntKind.wrap .i64 (Int.tdiv v0 v1)) →
 (((!decide ((v1 : Int) = 0)) = true) ∧ (((!decide ((v1 : Int) = 0)) = true) →
 (((!decide (((Int.tmod v0 v1) : Int) = 0)) = true →
  (((!(decide ((v0 : Int) < 0) == decide ((v1 : Int) < 0))) = true →
   ∀ v3 : Int, v3 = (IntKind.wrap .i64 (v2 - 1)) →
   post [v3] []) ∧ ((!(decide ((v0 : Int) < 0) == decide ((v1 : Int) < 0))) = false →
   post [v2] []))) ∧ ((!decide (((Int.tmod v0 v1) : Int) = 0)) = false →
  post [v2] []))))))
theorem q96 (T : Tab) (I : Nat → Env → Env → Prop) (M : Nat → Env → Env → Nat) (pre : Nat → List Int → List (List Int) → Prop) (post : List Int → List (List Int) → Prop) (v0 v1 : Int) : t96.plain T (presG pre I M) post ⟨[v0, v1], []⟩ = p96 T I M pre post v0 v1 := by kernel_rfl
theorem k96 (T : Tab) (I : Nat → Env → Env → Prop) (M : Nat → Env → Env → Nat) (pre : Nat → List Int → List (List Int) → Prop) (hs : SubSig T c96.sigs) (ht : TotG pre c96.sigs) (hg : T.sig 96 = some s96) (hC : CtAll Try.prog T.fns (presQ pre) c96.sigs) (hk : CpAll Try.prog c96.cps) (hi : ∀ xs ls, allHas (parIvs s96.params) xs → pre 96 xs ls → allHas iv96 xs)
    (h : ∀ (v0 v1 : Int), allHas iv96 [v0, v1] → allL (parLvs s96.params) [] → pre 96 [v0, v1] [] → p96 T I M pre (fun ys _ => ys = T.app 96 [v0, v1] []) v0 v1) : CT Try.prog T.fns (presQ pre) 96 s96 :=
  T.ctg (F := ⟨c96, []⟩) (fuel := 250) vc96 Try.checked.mixed hs ht hg hC hk Try.func96 I M (fun xs ls h1 h2 h3 => ⟨hi xs ls h1 h3, h2⟩) fun xs ls hx hl hp => by
    match xs, ls, hx, hl, hp with
    | [v0, v1], [], hx, hl, hp => rw [q96]; exact h v0 v1 hx hl hp
/-- (loop.example/g01242/impl.Ratio).between -/
def s103 : Sig := ⟨[.val true [.i .i64, .i .i64], .val true [.i .i64, .i .i64]], [(true, [.i .i64, .i .i64])], false⟩
noncomputable def c103 : Cfg := ⟨Try.prog, [], [], [], []⟩
def iv103 : List Iv := [⟨(-9223372036854775808), 9223372036854775807⟩, ⟨(-9223372036854775808), 9223372036854775807⟩, ⟨(-9223372036854775808), 9223372036854775807⟩, ⟨(-9223372036854775808), 9223372036854775807⟩]
def t103 : VC :=
 (.bind (.wrap .i64 (.add (.var 0) (.var 2)))
 (.bind (.wrap .i64 (.add (.var 1) (.var 3)))
 (.fin (.e (.var 4) (.e (.var 5) .nil)))))
theorem vc103 : vcOfI ⟨c103, []⟩ iv103 (parLvs s103.params) 250 Try.f103 s103 = t103 := by kernel_rfl
set_option linter.unusedVariables false in
def p103 (T : Tab) (I : Nat → Env → Env → Prop) (M : Nat → Env → Env → Nat) (pre : Nat → List Int → List (List Int) → Prop) (post : List Int → List (List Int) → Prop) (v0 v1 v2 v3 : Int) : Prop :=
 ∀ v4 : Int, v4 = (IntKind.wrap .i64 (v0 + v2)) →
 ∀ v5 : Int, v5 = (IntKind.wrap .i64 (v1 + v3)) →
 post [v4, v5] []
theorem q103 (T : Tab) (I : Nat → Env → Env → Prop) (M : Nat → Env → Env → Nat) (pre : Nat → List Int → List (List Int) → Prop) (post : List Int → List (List Int) → Prop) (v0 v1 v2 v3 : Int) : t103.plain T (presG pre I M) post ⟨[v0, v1, v2, v3], []⟩ = p103 T I M pre post v0 v1 v2 v3 := by kernel_rfl
theorem k103 (T : Tab) (I : Nat → Env → Env → Prop) (M : Nat → Env → Env → Nat) (pre : Nat → List Int → List (List Int) → Prop) (hs : SubSig T c103.sigs) (ht : TotG pre c103.sigs) (hg : T.sig 103 = some s103) (hC : CtAll Try.prog T.fns (presQ pre) c103.sigs) (hk : CpAll Try.prog c103.cps) (hi : ∀ xs ls, allHas (parIvs s103.params) xs → pre 103 xs ls → allHas iv103 xs)
    (h : ∀ (v0 v1 v2 v3 : Int), allHas iv103 [v0, v1, v2, v3] → allL (parLvs s103.params) [] → pre 103 [v0, v1, v2, v3] [] → p103 T I M pre (fun ys _ => ys = T.app 103 [v0, v1, v2, v3] []) v0 v1 v2 v3) : CT Try.prog T.fns (presQ pre) 103 s103 :=
  T.ctg (F := ⟨c103, []⟩) (fuel := 250) vc103 Try.checked.mixed hs ht hg hC hk Try.func103 I M (fun xs ls h1 h2 h3 => ⟨hi xs ls h1 h3, h2⟩) fun xs ls hx hl hp => by
    match xs, ls, hx, hl, hp with
    | [v0, v1, v2, v3], [], hx, hl, hp => rw [q103]; exact h v0 v1 v2 v3 hx hl hp
/-- (loop.example/g01242/impl.Ratio).below -/
def s84 : Sig := ⟨[.val true [.i .i64, .i .i64], .val false [.i .i64]], [(true, [.i .i64, .i .i64])], false⟩
noncomputable def c84 : Cfg := ⟨Try.prog, [(96, s96), (103, s103)], [], [], []⟩
def iv84 : List Iv := [⟨(-9223372036854775808), 9223372036854775807⟩, ⟨(-9223372036854775808), 9223372036854775807⟩, ⟨(-9223372036854775808), 9223372036854775807⟩]
def t84 : VC :=
 (.need [(.pre 96 (.e (.wrap .i64 (.sub (.var 0) (.lit 1))) (.e (.var 1) .nil)))]
 (.call 96 (.e (.wrap .i64 (.sub (.var 0) (.lit 1))) (.e (.var 1) .nil)) 1
 (.bind (.wrap .i64 (.add (.var 3) (.lit 1)))
 (.bind (.wrap .i64 (.sub (.var 0) (.wrap .i64 (.mul (.var 3) (.var 1)))))
 (.bind (.wrap .i64 (.sub (.wrap .i64 (.mul (.var 4) (.var 1))) (.var 0)))
 (.loop 1 [(.var 5), (.var 6), (.var 3), (.lit 1), (.var 4), (.lit 1)] [] [⟨(-9223372036854775808), 9223372036854775807⟩, ⟨(-9223372036854775808), 9223372036854775807⟩, ⟨(-9223372036854775808), 9223372036854775807⟩, ⟨(-9223372036854775808), 9223372036854775807⟩, ⟨(-9223372036854775808), 9223372036854775807⟩, ⟨(-9223372036854775808), 9223372036854775807⟩] []
  (.ite (.le (.wrap .i64 (.add (.var 10) (.var 12))) (.var 2))
   (.ite (.lt (.var 8) (.var 7))
    (.need [(.pre 103 (.e (.var 9) (.e (.var 10) (.e (.var 11) (.e (.var 12) .nil)))))]
    (.call 103 (.e (.var 9) (.e (.var 10) (.e (.var 11) (.e (.var 12) .nil)))) 2
    (.bind (.wrap .i64 (.sub (.var 7) (.var 8)))
    (.again 1 7 0 [⟨(-9223372036854775808), 9223372036854775807⟩, ⟨(-9223372036854775808), 9223372036854775807⟩, ⟨(-9223372036854775808), 9223372036854775807⟩, ⟨(-9223372036854775808), 9223372036854775807⟩, ⟨(-9223372036854775808), 9223372036854775807⟩, ⟨(-9223372036854775808), 9223372036854775807⟩] [(.var 15), (.var 8), (.var 13), (.var 14), (.var 11), (.var 12)] []))))
    (.need [(.pre 103 (.e (.var 9) (.e (.var 10) (.e (.var 11) (.e (.var 12) .nil)))))]
    (.call 103 (.e (.var 9) (.e (.var 10) (.e (.var 11) (.e (.var 12) .nil)))) 2
    (.bind (.wrap .i64 (.sub (.var 8) (.var 7)))
    (.again 1 7 0 [⟨(-9223372036854775808), 9223372036854775807⟩, ⟨(-9223372036854775808), 9223372036854775807⟩, ⟨(-9223372036854775808), 9223372036854775807⟩, ⟨(-9223372036854775808), 9223372036854775807⟩, ⟨(-9223372036854775808), 9223372036854775807⟩, ⟨(-9223372036854775808), 9223372036854775807⟩] [(.var 7), (.var 15), (.var 9), (.var 10), (.var 13), (.var 14)] [])))))
   (.fin (.e (.var 9) (.e (.var 10) .nil))))))))))
theorem vc84 : vcOfI ⟨c84, [(4, ⟨1, [8, 9], [2, 3], [37, 38, 39, 40, 41, 42, 43, 44, 45, 46, 47, 48, 49, 50, 51, 52, 53, 54, 55, 56, 57, 58], [⟨(-9223372036854775808), 9223372036854775807⟩, ⟨(-9223372036854775808), 9223372036854775807⟩, ⟨(-9223372036854775808), 9223372036854775807⟩, ⟨(-9223372036854775808), 9223372036854775807⟩, ⟨(-9223372036854775808), 9223372036854775807⟩, ⟨(-9223372036854775808), 9223372036854775807⟩], [], []⟩)]⟩ iv84 (parLvs s84.params) 250 Try.f84 s84 = t84 := by kernel_rfl
set_option linter.unusedVariables false in
def p84 (T : Tab) (I : Nat → Env → Env → Prop) (M : Nat → Env → Env → Nat) (pre : Nat → List Int → List (List Int) → Prop) (post : List Int → List (List Int) → Prop) (v0 v1 v2 : Int) : Prop :=
 ((pre 96 [(IntKind.wrap .i64 (v0 - 1)), v1] []) ∧ ((pre 96 [(IntKind.wrap .i64 (v0 - 1)), v1] []) →
 ∀ v3 : Int, [v3] = T.out 96 1 [(IntKind.wrap .i64 (v0 - 1)), v1] →
 ∀ v4 : Int, v4 = (IntKind.wrap .i64 (v3 + 1)) →
 ∀ v5 : Int, v5 = (IntKind.wrap .i64 (v0 - (IntKind.wrap .i64 (v3 * v1)))) →
 ∀ v6 : Int, v6 = (IntKind.wrap .i64 ((IntKind.wrap .i64 (v4 * v1)) - v0)) →
 ((allHas [⟨(-9223372036854775808), 9223372036854775807⟩, ⟨(-9223372036854775808), 9223372036854775807⟩, ⟨(-9223372036854775808), 9223372036854775807⟩, ⟨(-9223372036854775808), 9223372036854775807⟩, ⟨(-9223372036854775808), 9223372036854775807⟩, ⟨(-9223372036854775808), 9223372036854775807⟩] [v5, v6, v3, 1, v4, 1] ∧ I 1 ⟨[v0, v1, v2, v3, v4, v5, v6], []⟩ ⟨[v5, v6, v3, 1, v4, 1], []⟩) ∧ ∀ v7 v8 v9 v10 v11 v12 : Int, allHas [⟨(-9223372036854775808), 9223372036854775807⟩, ⟨(-9223372036854775808), 9223372036854775807⟩, ⟨(-9223372036854775808), 9223372036854775807⟩, ⟨(-9223372036854775808), 9223372036854775807⟩, ⟨(-9223372036854775808), 9223372036854775807⟩, ⟨(-9223372036854775808), 9223372036854775807⟩] [v7, v8, v9, v10, v11, v12] → I 1 ⟨[v0, v1, v2, v3, v4, v5, v6], []⟩ ⟨[v7, v8, v9, v10, v11, v12], []⟩ →
  ((decide (((IntKind.wrap .i64 (v10 + v12)) : Int) ≤ v2) = true →
   ((decide ((v8 : Int) < v7) = true →
    ((pre 103 [v9, v10, v11, v12] []) ∧ ((pre 103 [v9, v10, v11, v12] []) →
    ∀ v13 v14 : Int, [v13, v14] = T.out 103 2 [v9, v10, v11, v12] →
    ∀ v15 : Int, v15 = (IntKind.wrap .i64 (v7 - v8)) →
    (allHas [⟨(-9223372036854775808), 9223372036854775807⟩, ⟨(-9223372036854775808), 9223372036854775807⟩, ⟨(-9223372036854775808), 9223372036854775807⟩, ⟨(-9223372036854775808), 9223372036854775807⟩, ⟨(-9223372036854775808), 9223372036854775807⟩, ⟨(-9223372036854775808), 9223372036854775807⟩] [v15, v8, v13, v14, v11, v12] ∧ I 1 ⟨[v0, v1, v2, v3, v4, v5, v6], []⟩ ⟨[v15, v8, v13, v14, v11, v12], []⟩ ∧ M 1 ⟨[v0, v1, v2, v3, v4, v5, v6], []⟩ ⟨[v15, v8, v13, v14, v11, v12], []⟩ < M 1 ⟨[v0, v1, v2, v3, v4, v5, v6], []⟩ ⟨[v7, v8, v9, v10, v11, v12], []⟩)))) ∧ (decide ((v8 : Int) < v7) = false →
    ((pre 103 [v9, v10, v11, v12] []) ∧ ((pre 103 [v9, v10, v11, v12] []) →
    ∀ v13 v14 : Int, [v13, v14] = T.out 103 2 [v9, v10, v11, v12] →
    ∀ v15 : Int, v15 = (IntKind.wrap .i64 (v8 - v7)) →
    (allHas [⟨(-9223372036854775808), 9223372036854775807⟩, ⟨(-9223372036854775808), 9223372036854775807⟩, ⟨(-9223372036854775808), 9223372036854775807⟩, ⟨(-9223372036854775808), 9223372036854775807⟩, ⟨(-9223372036854775808), 9223372036854775807⟩, ⟨(-9223372036854775808), 9223372036854775807⟩] [v7, v15, v9, v10, v13, v14] ∧ I 1 ⟨[v0, v1, v2, v3, v4, v5, v6], []⟩ ⟨[v7, v15, v9, v10, v13, v14], []⟩ ∧ M 1 ⟨[v0, v1, v2, v3, v4, v5, v6], []⟩ ⟨[v7, v15, v9, v10, v13, v14], []⟩ < M 1 ⟨[v0, v1, v2, v3, v4, v5, v6], []⟩ ⟨[v7, v8, v9, v10, v11, v12], []⟩)))))) ∧ (decide (((IntKind.wrap .i64 (v10 + v12)) : Int) ≤ v2) = false →
   post [v9, v10] [])))))
theorem q84 (T : Tab) (I : Nat → Env → Env → Prop) (M : Nat → Env → Env → Nat) (pre : Nat → List Int → List (List Int) → Prop) (post : List Int → List (List Int) → Prop) (v0 v1 v2 : Int) : t84.plain T (presG pre I M) post ⟨[v0, v1, v2], []⟩ = p84 T I M pre post v0 v1 v2 := by kernel_rfl
theorem k84 (T : Tab) (I : Nat → Env → Env → Prop) (M : Nat → Env → Env → Nat) (pre : Nat → List Int → List (List Int) → Prop) (hs : SubSig T c84.sigs) (ht : TotG pre c84.sigs) (hg : T.sig 84 = some s84) (hC : CtAll Try.prog T.fns (presQ pre) c84.sigs) (hk : CpAll Try.prog c84.cps) (hi : ∀ xs ls, allHas (parIvs s84.params) xs → pre 84 xs ls → allHas iv84 xs)
    (h : ∀ (v0 v1 v2 : Int), allHas iv84 [v0, v1, v2] → allL (parLvs s84.params) [] → pre 84 [v0, v1, v2] [] → p84 T I M pre (fun ys _ => ys = T.app 84 [v0, v1, v2] []) v0 v1 v2) : CT Try.prog T.fns (presQ pre) 84 s84 :=
  T.ctg (F := ⟨c84, [(4, ⟨1, [8, 9], [2, 3], [37, 38, 39, 40, 41, 42, 43, 44, 45, 46, 47, 48, 49, 50, 51, 52, 53, 54, 55, 56, 57, 58], [⟨(-9223372036854775808), 9223372036854775807⟩, ⟨(-9223372036854775808), 9223372036854775807⟩, ⟨(-9223372036854775808), 9223372036854775807⟩, ⟨(-9223372036854775808), 9223372036854775807⟩, ⟨(-9223372036854775808), 9223372036854775807⟩, ⟨(-9223372036854775808), 9223372036854775807⟩], [], []⟩)]⟩) (fuel := 250) vc84 Try.checked.mixed hs ht hg hC hk Try.func84 I M (fun xs ls h1 h2 h3 => ⟨hi xs ls h1 h3, h2⟩) fun xs ls hx hl hp => by
    match xs, ls, hx, hl, hp with
    | [v0, v1, v2], [], hx, hl, hp => rw [q84]; exact h v0 v1 v2 hx hl hp
/-- (loop.example/g01242/impl.Ratio).above -/
def s85 : Sig := ⟨[.val true [.i .i64, .i .i64], .val false [.i .i64]], [(true, [.i .i64, .i .i64])], false⟩
noncomputable def c85 : Cfg := ⟨Try.prog, [(84, s84)], [], [], []⟩
def iv85 : List Iv := [⟨(-9223372036854775808), 9223372036854775807⟩, ⟨(-9223372036854775808), 9223372036854775807⟩, ⟨(-9223372036854775808), 9223372036854775807⟩]
def t85 : VC :=
 (.need [(.pre 84 (.e (.wrap .i64 (.sub (.lit 0) (.var 0))) (.e (.var 1) (.e (.var 2) .nil))))]
 (.call 84 (.e (.wrap .i64 (.sub (.lit 0) (.var 0))) (.e (.var 1) (.e (.var 2) .nil))) 2
 (.bind (.wrap .i64 (.sub (.lit 0) (.var 3)))
 (.fin (.e (.var 5) (.e (.var 4) .nil))))))
theorem vc85 : vcOfI ⟨c85, []⟩ iv85 (parLvs s85.params) 250 Try.f85 s85 = t85 := by kernel_rfl
set_option linter.unusedVariables false in
def p85 (T : Tab) (I : Nat → Env → Env → Prop) (M : Nat → Env → Env → Nat) (pre : Nat → List Int → List (List Int) → Prop) (post : List Int → List (List Int) → Prop) (v0 v1 v2 : Int) : Prop :=
 ((pre 84 [(IntKind.wrap .i64 (0 - v0)), v1, v2] []) ∧ ((pre 84 [(IntKind.wrap .i64 (0 - v0)), v1, v2] []) →
 ∀ v3 v4 : Int, [v3, v4] = T.out 84 2 [(IntKind.wrap .i64 (0 - v0)), v1, v2] →
 ∀ v5 : Int, v5 = (IntKind.wrap .i64 (0 - v3)) →
 post [v5, v4] []))
theorem q85 (T : Tab) (I : Nat → Env → Env → Prop) (M : Nat → Env → Env → Nat) (pre : Nat → List Int → List (List Int) → Prop) (post : List Int → List (List Int) → Prop) (v0 v1 v2 : Int) : t85.plain T (presG pre I M) post ⟨[v0, v1, v2], []⟩ = p85 T I M pre post v0 v1 v2 := by kernel_rfl
theorem k85 (T : Tab) (I : Nat → Env → Env → Prop) (M : Nat → Env → Env → Nat) (pre : Nat → List Int → List (List Int) → Prop) (hs : SubSig T c85.sigs) (ht : TotG pre c85.sigs) (hg : T.sig 85 = some s85) (hC : CtAll Try.prog T.fns (presQ pre) c85.sigs) (hk : CpAll Try.prog c85.cps) (hi : ∀ xs ls, allHas (parIvs s85.params) xs → pre 85 xs ls → allHas iv85 xs)
    (h : ∀ (v0 v1 v2 : Int), allHas iv85 [v0, v1, v2] → allL (parLvs s85.params) [] → pre 85 [v0, v1, v2] [] → p85 T I M pre (fun ys _ => ys = T.app 85 [v0, v1, v2] []) v0 v1 v2) : CT Try.prog T.fns (presQ pre) 85 s85 :=
  T.ctg (F := ⟨c85, []⟩) (fuel := 250) vc85 Try.checked.mixed hs ht hg hC hk Try.func85 I M (fun xs ls h1 h2 h3 => ⟨hi xs ls h1 h3, h2⟩) fun xs ls hx hl hp => by
    match xs, ls, hx, hl, hp with
    | [v0, v1, v2], [], hx, hl, hp => rw [q85]; exact h v0 v1 v2 hx hl hp
/-- loop.example/g01242/spec.l04Beside -/
def s86 : Sig := ⟨[.ptr [.i .i64, .i .i64], .val false [.i .i64], .val false [.i .i64]], [(true, [.i .i64, .i .i64]), (false, [.i .i64])], false⟩
noncomputable def c86 : Cfg := ⟨Try.prog, [(81, s81), (82, s82), (63, s63)], [], [], []⟩
def iv86 : List Iv := [⟨(-9223372036854775808), 9223372036854775807⟩, ⟨(-9223372036854775808), 9223372036854775807⟩, ⟨(-9223372036854775808), 9223372036854775807⟩, ⟨(-9223372036854775808), 9223372036854775807⟩]
def t86 : VC :=
 (.loop 1 [(.lit (-1)), (.lit 0), (.lit 1), (.lit 1)] [] [⟨(-9223372036854775808), 9223372036854775807⟩, ⟨(-9223372036854775808), 9223372036854775807⟩, ⟨(-9223372036854775808), 9223372036854775807⟩, ⟨(-9223372036854775808), 9223372036854775807⟩] []
  (.ite (.le (.var 7) (.var 2))
   (.need [(.pre 81 (.e (.wrap .i64 (.mul (.wrap .i64 (.mul (.var 3) (.var 0))) (.var 7))) (.e (.var 1) .nil)))]
   (.call 81 (.e (.wrap .i64 (.mul (.wrap .i64 (.mul (.var 3) (.var 0))) (.var 7))) (.e (.var 1) .nil)) 1
   (.bind (.wrap .i64 (.mul (.var 3) (.wrap .i64 (.add (.var 8) (.lit 1)))))
   (.call 82 (.e (.wrap .i64 (.sub (.wrap .i64 (.mul (.var 0) (.var 7))) (.wrap .i64 (.mul (.var 9) (.var 1))))) .nil) 1
   (.ite (.le (.lit 0) (.var 4))
    (.bind (.ite (.lt (.wrap .i64 (.mul (.var 10) (.var 6))) (.wrap .i64 (.mul (.var 4) (.var 7)))) (.var 10) (.var 4))
    (.bind (.ite (.lt (.wrap .i64 (.mul (.var 10) (.var 6))) (.wrap .i64 (.mul (.var 4) (.var 7)))) (.var 9) (.var 5))
    (.bind (.ite (.lt (.wrap .i64 (.mul (.var 10) (.var 6))) (.wrap .i64 (.mul (.var 4) (.var 7)))) (.var 7) (.var 6))
    (.bind (.wrap .i64 (.add (.var 7) (.lit 1)))
    (.again 1 4 0 [⟨(-9223372036854775808), 9223372036854775807⟩, ⟨(-9223372036854775808), 9223372036854775807⟩, ⟨(-9223372036854775808), 9223372036854775807⟩, ⟨(-9223372036854775808), 9223372036854775807⟩] [(.var 11), (.var 12), (.var 13), (.var 14)] [])))))
    (.bind (.wrap .i64 (.add (.var 7) (.lit 1)))
    (.again 1 4 0 [⟨(-9223372036854775808), 9223372036854775807⟩, ⟨(-9223372036854775808), 9223372036854775807⟩, ⟨(-9223372036854775808), 9223372036854775807⟩, ⟨(-9223372036854775808), 9223372036854775807⟩] [(.var 10), (.var 9), (.var 7), (.var 11)] [])))))))
   (.need [(.pre 63 (.e (.var 5) (.e (.var 6) .nil)))]
   (.call 63 (.e (.var 5) (.e (.var 6) .nil)) 3
   (.fin (.e (.var 8) (.e (.var 9) (.e (.var 10) .nil))))))))
theorem vc86 : vcOfI ⟨c86, [(5, ⟨1, [8, 9, 10, 11], [], [14, 15, 16, 19, 20, 21, 22, 23, 24, 25, 26, 27, 28, 29, 30, 31, 32, 33, 34, 12, 35, 36, 37, 38, 39, 40, 41, 42, 43, 44, 45, 46, 47, 48, 13, 49, 50, 51, 52, 53, 54, 55, 56, 57, 58, 59, 60, 61, 62, 17, 18], [⟨(-9223372036854775808), 9223372036854775807⟩, ⟨(-9223372036854775808), 9223372036854775807⟩, ⟨(-9223372036854775808), 9223372036854775807⟩, ⟨(-9223372036854775808), 9223372036854775807⟩], [], []⟩)]⟩ iv86 (parLvs s86.params) 250 Try.f86 s86 = t86 := by kernel_rfl
set_option linter.unusedVariables false in
def p86 (T : Tab) (I : Nat → Env → Env → Prop) (M : Nat → Env → Env → Nat) (pre : Nat → List Int → List (List Int) → Prop) (post : List Int → List (List Int) → Prop) (v0 v1 v2 v3 : Int) : Prop :=
 ((allHas [⟨(-9223372036854775808), 9223372036854775807⟩, ⟨(-9223372036854775808), 9223372036854775807⟩, ⟨(-9223372036854775808), 9223372036854775807⟩, ⟨(-9223372036854775808), 9223372036854775807⟩] [(-1), 0, 1, 1] ∧ I 1 ⟨[v0, v1, v2, v3], []⟩ ⟨[(-1), 0, 1, 1], []⟩) ∧ ∀ v4 v5 v6 v7 : Int, allHas [⟨(-9223372036854775808), 9223372036854775807⟩, ⟨(-9223372036854775808), 9223372036854775807⟩, ⟨(-9223372036854775808), 9223372036854775807⟩, ⟨(-9223372036854775808), 9223372036854775807⟩] [v4, v5, v6, v7] → I 1 ⟨[v0, v1, v2, v3], []⟩ ⟨[v4, v5, v6, v7], []⟩ →
  ((decide ((v7 : Int) ≤ v2) = true →
   ((pre 81 [(IntKind.wrap .i64 ((IntKind.wrap .i64 (v3 * v0)) * v7)), v1] []) ∧ ((pre 81 [(IntKind.wrap .i64 ((IntKind.wrap .i64 (v3 * v0)) * v7)), v1] []) →
   ∀ v8 : Int, [v8] = T.out 81 1 [(IntKind.wrap .i64 ((IntKind.wrap .i64 (v3 * v0)) * v7)), v1] →
   ∀ v9 : Int, v9 = (IntKind.wrap .i64 (v3 * (IntKind.wrap .i64 (v8 + 1)))) →
   ∀ v10 : Int, [v10] = T.out 82 1 [(IntKind.wrap .i64 ((IntKind.wrap .i64 (v0 * v7)) - (IntKind.wrap .i64 (v9 * v1))))] →
   ((decide ((0 : Int) ≤ v4) = true →
    ∀ v11 : Int, v11 = (if decide (((IntKind.wrap .i64 (v10 * v6)) : Int) < (IntKind.wrap .i64 (v4 * v7))) = true then v10 else v4) →
    ∀ v12 : Int, v12 = (if decide (((IntKind.wrap .i64 (v10 * v6)) : Int) < (IntKind.wrap .i64 (v4 * v7))) = true then v9 else v5) →
    ∀ v13 : Int, v13 = (if decide (((IntKind.wrap .i64 (v10 * v6)) : Int) < (IntKind.wrap .i64 (v4 * v7))) = true then v7 else v6) →
    ∀ v14 : Int, v14 = (IntKind.wrap .i64 (v7 + 1)) →
    (allHas [⟨(-9223372036854775808), 9223372036854775807⟩, ⟨(-9223372036854775808), 9223372036854775807⟩, ⟨(-9223372036854775808), 9223372036854775807⟩, ⟨(-9223372036854775808), 9223372036854775807⟩] [v11, v12, v13, v14] ∧ I 1 ⟨[v0, v1, v2, v3], []⟩ ⟨[v11, v12, v13, v14], []⟩ ∧ M 1 ⟨[v0, v1, v2, v3], []⟩ ⟨[v11, v12, v13, v14], []⟩ < M 1 ⟨[v0, v1, v2, v3], []⟩ ⟨[v4, v5, v6, v7], []⟩)) ∧ (decide ((0 : Int) ≤ v4) = false →
    ∀ v11 : Int, v11 = (IntKind.wrap .i64 (v7 + 1)) →
    (allHas [⟨(-9223372036854775808), 9223372036854775807⟩, ⟨(-9223372036854775808), 9223372036854775807⟩, ⟨(-9223372036854775808), 9223372036854775807⟩, ⟨(-9223372036854775808), 9223372036854775807⟩] [v10, v9, v7, v11] ∧ I 1 ⟨[v0, v1, v2, v3], []⟩ ⟨[v10, v9, v7, v11], []⟩ ∧ M 1 ⟨[v0, v1, v2, v3], []⟩ ⟨[v10, v9, v7, v11], []⟩ < M 1 ⟨[v0, v1, v2, v3], []⟩ ⟨[v4, v5, v6, v7], []⟩)))))) ∧ (decide ((v7 : Int) ≤ v2) = false →
   ((pre 63 [v5, v6] []) ∧ ((pre 63 [v5, v6] []) →
   ∀ v8 v9 v10 : Int, [v8, v9, v10] = T.out 63 3 [v5, v6] →
   post [v8, v9, v10] [])))))
theorem q86 (T : Tab) (I : Nat → Env → Env → Prop) (M : Nat → Env → Env → Nat) (pre : Nat → List Int → List (List Int) → Prop) (post : List Int → List (List Int) → Prop) (v0 v1 v2 v3 : Int) : t86.plain T (presG pre I M) post ⟨[v0, v1, v2, v3], []⟩ = p86 T I M pre post v0 v1 v2 v3 := by kernel_rfl
theorem k86 (T : Tab) (I : Nat → Env → Env → Prop) (M : Nat → Env → Env → Nat) (pre : Nat → List Int → List (List Int) → Prop) (hs : SubSig T c86.sigs) (ht : TotG pre c86.sigs) (hg : T.sig 86 = some s86) (hC : CtAll Try.prog T.fns (presQ pre) c86.sigs) (hk : CpAll Try.prog c86.cps) (hi : ∀ xs ls, allHas (parIvs s86.params) xs → pre 86 xs ls → allHas iv86 xs)
    (h : ∀ (v0 v1 v2 v3 : Int), allHas iv86 [v0, v1, v2, v3] → allL (parLvs s86.params) [] → pre 86 [v0, v1, v2, v3] [] → p86 T I M pre (fun ys _ => ys = T.app 86 [v0, v1, v2, v3] []) v0 v1 v2 v3) : CT Try.prog T.fns (presQ pre) 86 s86 :=
  T.ctg (F := ⟨c86, [(5, ⟨1, [8, 9, 10, 11], [], [14, 15, 16, 19, 20, 21, 22, 23, 24, 25, 26, 27, 28, 29, 30, 31, 32, 33, 34, 12, 35, 36, 37, 38, 39, 40, 41, 42, 43, 44, 45, 46, 47, 48, 13, 49, 50, 51, 52, 53, 54, 55, 56, 57, 58, 59, 60, 61, 62, 17, 18], [⟨(-9223372036854775808), 9223372036854775807⟩, ⟨(-9223372036854775808), 9223372036854775807⟩, ⟨(-9223372036854775808), 9223372036854775807⟩, ⟨(-9223372036854775808), 9223372036854775807⟩], [], []⟩)]⟩) (fuel := 250) vc86 Try.checked.mixed hs ht hg hC hk Try.func86 I M (fun xs ls h1 h2 h3 => ⟨hi xs ls h1 h3, h2⟩) fun xs ls hx hl hp => by
    match xs, ls, hx, hl, hp with
    | [v0, v1, v2, v3], [], hx, hl, hp => rw [q86]; exact h v0 v1 v2 v3 hx hl hp
/-- loop.example/g01242/spec.BestFraction -/
def s35 : Sig := ⟨[.val true [.i .i64, .i .i64], .val false [.i .i64]], [(true, [.i .i64, .i .i64]), (false, [.i .i64])], true⟩
noncomputable def c35 : Cfg := ⟨Try.prog, [(80, s80), (81, s81), (82, s82), (63, s63)], [], [], []⟩
def iv35 : List Iv := [⟨(-9223372036854775808), 9223372036854775807⟩, ⟨(-9223372036854775808), 9223372036854775807⟩, ⟨(-9223372036854775808), 9223372036854775807⟩]
def t35 : VC :=
 (.call 80 (.e (.var 0) (.e (.var 1) (.e (.var 2) .nil))) 1
 (.ite (.not (.eq (.var 3) (.lit 0)))
  (.fin (.e (.lit 0) (.e (.lit 0) (.e (.var 3) .nil))))
  (.loop 1 [(.lit (-1)), (.lit 0), (.lit 1), (.lit 1)] [] [⟨(-9223372036854775808), 9223372036854775807⟩, ⟨(-9223372036854775808), 9223372036854775807⟩, ⟨(-9223372036854775808), 9223372036854775807⟩, ⟨(-9223372036854775808), 9223372036854775807⟩] []
   (.ite (.le (.var 7) (.var 2))
    (.need [(.pre 81 (.e (.wrap .i64 (.mul (.var 0) (.var 7))) (.e (.var 1) .nil)))]
    (.call 81 (.e (.wrap .i64 (.mul (.var 0) (.var 7))) (.e (.var 1) .nil)) 1
    (.loop 2 [(.var 4), (.var 5), (.var 6), (.var 8)] [] [⟨(-9223372036854775808), 9223372036854775807⟩, ⟨(-9223372036854775808), 9223372036854775807⟩, ⟨(-9223372036854775808), 9223372036854775807⟩, ⟨(-9223372036854775808), 9223372036854775807⟩] []
     (.ite (.le (.var 12) (.wrap .i64 (.add (.var 8) (.lit 1))))
      (.call 82 (.e (.wrap .i64 (.sub (.wrap .i64 (.mul (.var 0) (.var 7))) (.wrap .i64 (.mul (.var 12) (.var 1))))) .nil) 1
      (.ite (.le (.lit 0) (.var 9))
       (.bind (.ite (.lt (.wrap .i64 (.mul (.var 13) (.var 11))) (.wrap .i64 (.mul (.var 9) (.var 7)))) (.var 13) (.var 9))
       (.bind (.ite (.lt (.wrap .i64 (.mul (.var 13) (.var 11))) (.wrap .i64 (.mul (.var 9) (.var 7)))) (.var 12) (.var 10))
       (.bind (.ite (.lt (.wrap .i64 (.mul (.var 13) (.var 11))) (.wrap .i64 (.mul (.var 9) (.var 7)))) (.var 7) (.var 11))
       (.bind (.wrap .i64 (.add (.var 12) (.lit 1)))
       (.again 2 9 0 [⟨(-9223372036854775808), 9223372036854775807⟩, ⟨(-9223372036854775808), 9223372036854775807⟩, ⟨(-9223372036854775808), 9223372036854775807⟩, ⟨(-9223372036854775808), 9223372036854775807⟩] [(.var 14), (.var 15), (.var 16), (.var 17)] [])))))
       (.bind (.wrap .i64 (.add (.var 12) (.lit 1)))
       (.again 2 9 0 [⟨(-9223372036854775808), 9223372036854775807⟩, ⟨(-9223372036854775808), 9223372036854775807⟩, ⟨(-9223372036854775808), 9223372036854775807⟩, ⟨(-9223372036854775808), 9223372036854775807⟩] [(.var 13), (.var 12), (.var 7), (.var 14)] []))))
      (.bind (.wrap .i64 (.add (.var 7) (.lit 1)))
      (.again 1 4 0 [⟨(-9223372036854775808), 9223372036854775807⟩, ⟨(-9223372036854775808), 9223372036854775807⟩, ⟨(-9223372036854775808), 9223372036854775807⟩, ⟨(-9223372036854775808), 9223372036854775807⟩] [(.var 9), (.var 10), (.var 11), (.var 13)] []))))))
    (.need [(.pre 63 (.e (.var 5) (.e (.var 6) .nil)))]
    (.call 63 (.e (.var 5) (.e (.var 6) .nil)) 3
    (.fin (.e (.var 8) (.e (.var 9) (.e (.var 10) .nil))))))))))
theorem vc35 : vcOfI ⟨c35, [(8, ⟨1, [7, 8, 9, 10], [], [20, 21, 22, 25, 26, 27, 28, 29, 30, 31, 11, 32, 12, 33, 34, 35, 36, 39, 40, 41, 42, 43, 44, 45, 46, 47, 48, 13, 49, 50, 51, 52, 53, 54, 55, 56, 57, 58, 59, 60, 61, 62, 37, 38, 23, 24], [⟨(-9223372036854775808), 9223372036854775807⟩, ⟨(-9223372036854775808), 9223372036854775807⟩, ⟨(-9223372036854775808), 9223372036854775807⟩, ⟨(-9223372036854775808), 9223372036854775807⟩], [], []⟩), (12, ⟨2, [7, 8, 9, 12], [], [33, 34, 35, 36, 39, 40, 41, 42, 43, 44, 45, 46, 47, 48, 13, 49, 50, 51, 52, 53, 54, 55, 56, 57, 58, 59, 60, 61, 62, 37, 38], [⟨(-9223372036854775808), 9223372036854775807⟩, ⟨(-9223372036854775808), 9223372036854775807⟩, ⟨(-9223372036854775808), 9223372036854775807⟩, ⟨(-9223372036854775808), 9223372036854775807⟩], [], []⟩)]⟩ iv35 (parLvs s35.params) 250 Try.f35 s35 = t35 := by kernel_rfl
set_option linter.unusedVariables false in
def p35 (T : Tab) (I : Nat → Env → Env → Prop) (M : Nat → Env → Env → Nat) (pre : Nat → List Int → List (List Int) → Prop) (post : List Int → List (List Int) → Prop) (v0 v1 v2 : Int) : Prop :=
 ∀ v3 : Int, [v3] = T.out 80 1 [v0, v1, v2] →
 (((!decide ((v3 : Int) = 0)) = true →
  post [0, 0, v3] []) ∧ ((!decide ((v3 : Int) = 0)) = false →
  ((allHas [⟨(-9223372036854775808), 9223372036854775807⟩, ⟨(-9223372036854775808), 9223372036854775807⟩, ⟨(-9223372036854775808), 9223372036854775807⟩, ⟨(-9223372036854775808), 9223372036854775807⟩] [(-1), 0, 1, 1] ∧ I 1 ⟨[v0, v1, v2, v3], []⟩ ⟨[(-1), 0, 1, 1], []⟩) ∧ ∀ v4 v5 v6 v7 : Int, allHas [⟨(-9223372036854775808), 9223372036854775807⟩, ⟨(-9223372036854775808), 9223372036854775807⟩, ⟨(-9223372036854775808), 9223372036854775807⟩, ⟨(-9223372036854775808), 9223372036854775807⟩] [v4, v5, v6, v7] → I 1 ⟨[v0, v1, v2, v3], []⟩ ⟨[v4, v5, v6, v7], []⟩ →
   ((decide ((v7 : Int) ≤ v2) = true →
    ((pre 81 [(IntKind.wrap .i64 (v0 * v7)), v1] []) ∧ ((pre 81 [(IntKind.wrap .i64 (v0 * v7)), v1] []) →
    ∀ v8 : Int, [v8] = T.out 81 1 [(IntKind.wrap .i64 (v0 * v7)), v1] →
    ((allHas [⟨(-9223372036854775808), 9223372036854775807⟩, ⟨(-9223372036854775808), 9223372036854775807⟩, ⟨(-9223372036854775808), 9223372036854775807⟩, ⟨(-9223372036854775808), 9223372036854775807⟩] [v4, v5, v6, v8] ∧ I 2 ⟨[v0, v1, v2, v3, v4, v5, v6, v7, v8], []⟩ ⟨[v4, v5, v6, v8], []⟩) ∧ ∀ v9 v10 v11 v12 : Int, allHas [⟨(-9223372036854775808), 9223372036854775807⟩, ⟨(-9223372036854775808), 9223372036854775807⟩, ⟨(-9223372036854775808), 9223372036854775807⟩, ⟨(-9223372036854775808), 9223372036854775807⟩] [v9, v10, v11, v12] → I 2 ⟨[v0, v1, v2, v3, v4, v5, v6, v7, v8], []⟩ ⟨[v9, v10, v11, v12], []⟩ →
     ((decide ((v12 : Int) ≤ (IntKind.wrap .i64 (v8 + 1))) = true →
      ∀ v13 : Int, [v13] = T.out 82 1 [(IntKind.wrap .i64 ((IntKind.wrap .i64 (v0 * v7)) - (IntKind.wrap .i64 (v12 * v1))))] →
      ((decide ((0 : Int) ≤ v9) = true →
       ∀ v14 : Int, v14 = (if decide (((IntKind.wrap .i64 (v13 * v11)) : Int) < (IntKind.wrap .i64 (v9 * v7))) = true then v13 else v9) →
       ∀ v15 : Int, v15 = (if decide (((IntKind.wrap .i64 (v13 * v11)) : Int) < (IntKind.wrap .i64 (v9 * v7))) = true then v12 else v10) →
       ∀ v16 : Int, v16 = (if decide (((IntKind.wrap .i64 (v13 * v11)) : Int) < (IntKind.wrap .i64 (v9 * v7))) = true then v7 else v11) →
       ∀ v17 : Int, v17 = (IntKind.wrap .i64 (v12 + 1)) →
       (allHas [⟨(-9223372036854775808), 9223372036854775807⟩, ⟨(-9223372036854775808), 9223372036854775807⟩, ⟨(-9223372036854775808), 9223372036854775807⟩, ⟨(-9223372036854775808), 9223372036854775807⟩] [v14, v15, v16, v17] ∧ I 2 ⟨[v0, v1, v2, v3, v4, v5, v6, v7, v8], []⟩ ⟨[v14, v15, v16, v17], []⟩ ∧ M 2 ⟨[v0, v1, v2, v3, v4, v5, v6, v7, v8], []⟩ ⟨[v14, v15, v16, v17], []⟩ < M 2 ⟨[v0, v1, v2, v3, v4, v5, v6, v7, v8], []⟩ ⟨[v9, v10, v11, v12], []⟩)) ∧ (decide ((0 : Int) ≤ v9) = false →
       ∀ v14 : Int, v14 = (IntKind.wrap .i64 (v12 + 1)) →
       (allHas [⟨(-9223372036854775808), 9223372036854775807⟩, ⟨(-9223372036854775808), 9223372036854775807⟩, ⟨(-9223372036854775808), 9223372036854775807⟩, ⟨(-9223372036854775808), 9223372036854775807⟩] [v13, v12, v7, v14] ∧ I 2 ⟨[v0, v1, v2, v3, v4, v5, v6, v7, v8], []⟩ ⟨[v13, v12, v7, v14], []⟩ ∧ M 2 ⟨[v0, v1, v2, v3, v4, v5, v6, v7, v8], []⟩ ⟨[v13, v12, v7, v14], []⟩ < M 2 ⟨[v0, v1, v2, v3, v4, v5, v6, v7, v8], []⟩ ⟨[v9, v10, v11, v12], []⟩)))) ∧ (decide ((v12 : Int) ≤ (IntKind.wrap .i64 (v8 + 1))) = false →
      ∀ v13 : Int, v13 = (IntKind.wrap .i64 (v7 + 1)) →
      (allHas [⟨(-9223372036854775808), 9223372036854775807⟩, ⟨(-9223372036854775808), 9223372036854775807⟩, ⟨(-9223372036854775808), 9223372036854775807⟩, ⟨(-9223372036854775808), 9223372036854775807⟩] [v9, v10, v11, v13] ∧ I 1 ⟨[v0, v1, v2, v3], []⟩ ⟨[v9, v10, v11, v13], []⟩ ∧ M 1 ⟨[v0, v1, v2, v3], []⟩ ⟨[v9, v10, v11, v13], []⟩ < M 1 ⟨[v0, v1, v2, v3], []⟩ ⟨[v4, v5, v6, v7], []⟩))))))) ∧ (decide ((v7 : Int) ≤ v2) = false →
    ((pre 63 [v5, v6] []) ∧ ((pre 63 [v5, v6] []) →
    ∀ v8 v9 v10 : Int, [v8, v9, v10] = T.out 63 3 [v5, v6] →
    post [v8, v9, v10] [])))))))
theorem q35 (T : Tab) (I : Nat → Env → Env → Prop) (M : Nat → Env → Env → Nat) (pre : Nat → List Int → List (List Int) → Prop) (post : List Int → List (List Int) → Prop) (v0 v1 v2 : Int) : t35.plain T (presG pre I M) post ⟨[v0, v1, v2], []⟩ = p35 T I M pre post v0 v1 v2 := by kernel_rfl
theorem k35 (T : Tab) (I : Nat → Env → Env → Prop) (M : Nat → Env → Env → Nat) (pre : Nat → List Int → List (List Int) → Prop) (hs : SubSig T c35.sigs) (ht : TotG pre c35.sigs) (hg : T.sig 35 = some s35) (hC : CtAll Try.prog T.fns (presQ pre) c35.sigs) (hk : CpAll Try.prog c35.cps) (hi : ∀ xs ls, allHas (parIvs s35.params) xs → pre 35 xs ls → allHas iv35 xs)
    (h : ∀ (v0 v1 v2 : Int), allHas iv35 [v0, v1, v2] → allL (parLvs s35.params) [] → pre 35 [v0, v1, v2] [] → p35 T I M pre (fun ys _ => ys = T.app 35 [v0, v1, v2] []) v0 v1 v2) : CT Try.prog T.fns (presQ pre) 35 s35 :=
  T.ctg (F := ⟨c35, [(8, ⟨1, [7, 8, 9, 10], [], [20, 21, 22, 25, 26, 27, 28, 29, 30, 31, 11, 32, 12, 33, 34, 35, 36, 39, 40, 41, 42, 43, 44, 45, 46, 47, 48, 13, 49, 50, 51, 52, 53, 54, 55, 56, 57, 58, 59, 60, 61, 62, 37, 38, 23, 24], [⟨(-9223372036854775808), 9223372036854775807⟩, ⟨(-9223372036854775808), 9223372036854775807⟩, ⟨(-9223372036854775808), 9223372036854775807⟩, ⟨(-9223372036854775808), 9223372036854775807⟩], [], []⟩), (12, ⟨2, [7, 8, 9, 12], [], [33, 34, 35, 36, 39, 40, 41, 42, 43, 44, 45, 46, 47, 48, 13, 49, 50, 51, 52, 53, 54, 55, 56, 57, 58, 59, 60, 61, 62, 37, 38], [⟨(-9223372036854775808), 9223372036854775807⟩, ⟨(-9223372036854775808), 9223372036854775807⟩, ⟨(-9223372036854775808), 9223372036854775807⟩, ⟨(-9223372036854775808), 9223372036854775807⟩], [], []⟩)]⟩) (fuel := 250) vc35 Try.checked.mixed hs ht hg hC hk Try.func35 I M (fun xs ls h1 h2 h3 => ⟨hi xs ls h1 h3, h2⟩) fun xs ls hx hl hp => by
    match xs, ls, hx, hl, hp with
    | [v0, v1, v2], [], hx, hl, hp => rw [q35]; exact h v0 v1 v2 hx hl hp
/-- loop.example/g01242/impl.BestFraction -/
def s37 : Sig := ⟨[.val true [.i .i64, .i .i64], .val false [.i .i64]], [(true, [.i .i64, .i .i64]), (false, [.i .i64])], true⟩
noncomputable def c37 : Cfg := ⟨Try.prog, [(83, s83), (84, s84), (85, s85), (67, s67)], [], [], []⟩
def iv37 : List Iv := [⟨(-9223372036854775808), 9223372036854775807⟩, ⟨(-9223372036854775808), 9223372036854775807⟩, ⟨(-9223372036854775808), 9223372036854775807⟩]
def t37 : VC :=
 (.call 83 (.e (.var 0) (.e (.var 1) (.e (.var 2) .nil))) 1
 (.ite (.not (.eq (.var 3) (.lit 0)))
  (.fin (.e (.lit 0) (.e (.lit 0) (.e (.var 3) .nil))))
  (.ite (.le (.var 1) (.var 2))
   (.fin (.e (.var 0) (.e (.var 1) (.e (.lit 0) .nil))))
   (.need [(.pre 84 (.e (.var 0) (.e (.var 1) (.e (.var 2) .nil)))), (.pre 85 (.e (.var 0) (.e (.var 1) (.e (.var 2) .nil))))]
   (.call 84 (.e (.var 0) (.e (.var 1) (.e (.var 2) .nil))) 2
   (.call 85 (.e (.var 0) (.e (.var 1) (.e (.var 2) .nil))) 2
   (.bind (.wrap .i64 (.mul (.wrap .i64 (.sub (.wrap .i64 (.mul (.var 0) (.var 5))) (.wrap .i64 (.mul (.var 4) (.var 1))))) (.var 7)))
   (.bind (.wrap .i64 (.mul (.wrap .i64 (.sub (.wrap .i64 (.mul (.var 6) (.var 1))) (.wrap .i64 (.mul (.var 0) (.var 7))))) (.var 5)))
   (.ite (.le (.var 9) (.var 8))
    (.ite (.eq (.var 8) (.var 9))
     (.ite (.le (.var 5) (.var 7))
      (.call 67 (.e (.var 4) (.e (.var 5) .nil)) 3
      (.fin (.e (.var 10) (.e (.var 11) (.e (.var 12) .nil)))))
      (.call 67 (.e (.var 6) (.e (.var 7) .nil)) 3
      (.fin (.e (.var 10) (.e (.var 11) (.e (.var 12) .nil))))))
     (.call 67 (.e (.var 6) (.e (.var 7) .nil)) 3
     (.fin (.e (.var 10) (.e (.var 11) (.e (.var 12) .nil))))))
    (.call 67 (.e (.var 4) (.e (.var 5) .nil)) 3
    (.fin (.e (.var 10) (.e (.var 11) (.e (.var 12) .nil))))))))))))))
theorem vc37 : vcOfI ⟨c37, []⟩ iv37 (parLvs s37.params) 250 Try.f37 s37 = t37 := by kernel_rfl
set_option linter.unusedVariables false in
def p37 (T : Tab) (I : Nat → Env → Env → Prop) (M : Nat → Env → Env → Nat) (pre : Nat → List Int → List (List Int) → Prop) (post : List Int → List (List Int) → Prop) (v0 v1 v2 : Int) : Prop :=
 ∀ v3 : Int, [v3] = T.out 83 1 [v0, v1, v2] →
 (((!decide ((v3 : Int) = 0)) = true →
  post [0, 0, v3] []) ∧ ((!decide ((v3 : Int) = 0)) = false →
  ((decide ((v1 : Int) ≤ v2) = true →
   post [v0, v1, 0] []) ∧ (decide ((v1 : Int) ≤ v2) = false →
   ((pre 84 [v0, v1, v2] [] ∧ pre 85 [v0, v1, v2] []) ∧ ((pre 84 [v0, v1, v2] [] ∧ pre 85 [v0, v1, v2] []) →
   ∀ v4 v5 : Int, [v4, v5] = T.out 84 2 [v0, v1, v2] →
   ∀ v6 v7 : Int, [v6, v7] = T.out 85 2 [v0, v1, v2] →
   ∀ v8 : Int, v8 = (IntKind.wrap .i64 ((IntKind.wrap .i64 ((IntKind.wrap .i64 (v0 * v5)) - (IntKind.wrap .i64 (v4 * v1)))) * v7)) →
   ∀ v9 : Int, v9 = (IntKind.wrap .i64 ((IntKind.wrap .i64 ((IntKind.wrap .i64 (v6 * v1)) - (IntKind.wrap .i64 (v0 * v7)))) * v5)) →
   ((decide ((v9 : Int) ≤ v8) = true →
    ((decide ((v8 : Int) = v9) = true →
     ((decide ((v5 : Int) ≤ v7) = true →
      ∀ v10 v11 v12 : Int, [v10, v11, v12] = T.out 67 3 [v4, v5] →
      post [v10, v11, v12] []) ∧ (decide ((v5 : Int) ≤ v7) = false →
      ∀ v10 v11 v12 : Int, [v10, v11, v12] = T.out 67 3 [v6, v7] →
      post [v10, v11, v12] []))) ∧ (decide ((v8 : Int) = v9) = false →
     ∀ v10 v11 v12 : Int, [v10, v11, v12] = T.out 67 3 [v6, v7] →
     post [v10, v11, v12] []))) ∧ (decide ((v9 : Int) ≤ v8) = false →
    ∀ v10 v11 v12 : Int, [v10, v11, v12] = T.out 67 3 [v4, v5] →
    post [v10, v11, v12] []))))))))
theorem q37 (T : Tab) (I : Nat → Env → Env → Prop) (M : Nat → Env → Env → Nat) (pre : Nat → List Int → List (List Int) → Prop) (post : List Int → List (List Int) → Prop) (v0 v1 v2 : Int) : t37.plain T (presG pre I M) post ⟨[v0, v1, v2], []⟩ = p37 T I M pre post v0 v1 v2 := by kernel_rfl
theorem k37 (T : Tab) (I : Nat → Env → Env → Prop) (M : Nat → Env → Env → Nat) (pre : Nat → List Int → List (List Int) → Prop) (hs : SubSig T c37.sigs) (ht : TotG pre c37.sigs) (hg : T.sig 37 = some s37) (hC : CtAll Try.prog T.fns (presQ pre) c37.sigs) (hk : CpAll Try.prog c37.cps) (hi : ∀ xs ls, allHas (parIvs s37.params) xs → pre 37 xs ls → allHas iv37 xs)
    (h : ∀ (v0 v1 v2 : Int), allHas iv37 [v0, v1, v2] → allL (parLvs s37.params) [] → pre 37 [v0, v1, v2] [] → p37 T I M pre (fun ys _ => ys = T.app 37 [v0, v1, v2] []) v0 v1 v2) : CT Try.prog T.fns (presQ pre) 37 s37 :=
  T.ctg (F := ⟨c37, []⟩) (fuel := 250) vc37 Try.checked.mixed hs ht hg hC hk Try.func37 I M (fun xs ls h1 h2 h3 => ⟨hi xs ls h1 h3, h2⟩) fun xs ls hx hl hp => by
    match xs, ls, hx, hl, hp with
    | [v0, v1, v2], [], hx, hl, hp => rw [q37]; exact h v0 v1 v2 hx hl hp
/-- loop.example/g01242/spec.NeighboursOf -/
def s38 : Sig := ⟨[.val true [.i .i64, .i .i64], .val false [.i .i64]], [(true, [.i .i64, .i .i64]), (true, [.i .i64, .i .i64]), (false, [.i .i64])], true⟩
noncomputable def c38 : Cfg := ⟨Try.prog, [(80, s80), (86, s86)], [], [], []⟩
def iv38 : List Iv := [⟨(-9223372036854775808), 9223372036854775807⟩, ⟨(-9223372036854775808), 9223372036854775807⟩, ⟨(-9223372036854775808), 9223372036854775807⟩]
def t38 : VC :=
 (.call 80 (.e (.var 0) (.e (.var 1) (.e (.var 2) .nil))) 1
 (.ite (.not (.eq (.var 3) (.lit 0)))
  (.fin (.e (.lit 0) (.e (.lit 0) (.e (.lit 0) (.e (.lit 0) (.e (.var 3) .nil))))))
  (.need [(.pre 86 (.e (.var 0) (.e (.var 1) (.e (.var 2) (.e (.lit (-1)) .nil)))))]
  (.call 86 (.e (.var 0) (.e (.var 1) (.e (.var 2) (.e (.lit (-1)) .nil)))) 3
  (.need [(.pre 86 (.e (.var 0) (.e (.var 1) (.e (.var 2) (.e (.lit 1) .nil)))))]
  (.call 86 (.e (.var 0) (.e (.var 1) (.e (.var 2) (.e (.lit 1) .nil)))) 3
  (.ite (.eq (.var 6) (.lit 0))
   (.ite (.not (.eq (.var 9) (.lit 0)))
    (.fin (.e (.lit 0) (.e (.lit 0) (.e (.lit 0) (.e (.lit 0) (.e (.lit 3) .nil))))))
    (.fin (.e (.var 4) (.e (.var 5) (.e (.var 7) (.e (.var 8) (.e (.lit 0) .nil)))))))
   (.fin (.e (.lit 0) (.e (.lit 0) (.e (.lit 0) (.e (.lit 0) (.e (.lit 3) .nil)))))))))))))
theorem vc38 : vcOfI ⟨c38, []⟩ iv38 (parLvs s38.params) 250 Try.f38 s38 = t38 := by kernel_rfl
set_option linter.unusedVariables false in
def p38 (T : Tab) (I : Nat → Env → Env → Prop) (M : Nat → Env → Env → Nat) (pre : Nat → List Int → List (List Int) → Prop) (post : List Int → List (List Int) → Prop) (v0 v1 v2 : Int) : Prop :=
 ∀ v3 : Int, [v3] = T.out 80 1 [v0, v1, v2] →
 (((!decide ((v3 : Int) = 0)) = true →
  post [0, 0, 0, 0, v3] []) ∧ ((!decide ((v3 : Int) = 0)) = false →
  ((pre 86 [v0, v1, v2, (-1)] []) ∧ ((pre 86 [v0, v1, v2, (-1)] []) →
  ∀ v4 v5 v6 : Int, [v4, v5, v6] = T.out 86 3 [v0, v1, v2, (-1)] →
  ((pre 86 [v0, v1, v2, 1] []) ∧ ((pre 86 [v0, v1, v2, 1] []) →
  ∀ v7 v8 v9 : Int, [v7, v8, v9] = T.out 86 3 [v0, v1, v2, 1] →
  ((decide ((v6 : Int) = 0) = true →
   (((!decide ((v9 : Int) = 0)) = true →
    post [0, 0, 0, 0, 3] []) ∧ ((!decide ((v9 : Int) = 0)) = false →
    post [v4, v5, v7, v8, 0] []))) ∧ (decide ((v6 : Int) = 0) = false →
   post [0, 0, 0, 0, 3] []))))))))
theorem q38 (T : Tab) (I : Nat → Env → Env → Prop) (M : Nat → Env → Env → Nat) (pre : Nat → List Int → List (List Int) → Prop) (post : List Int → List (List Int) → Prop) (v0 v1 v2 : Int) : t38.plain T (presG pre I M) post ⟨[v0, v1, v2], []⟩ = p38 T I M pre post v0 v1 v2 := by kernel_rfl
theorem k38 (T : Tab) (I : Nat → Env → Env → Prop) (M : Nat → Env → Env → Nat) (pre : Nat → List Int → List (List Int) → Prop) (hs : SubSig T c38.sigs) (ht : TotG pre c38.sigs) (hg : T.sig 38 = some s38) (hC : CtAll Try.prog T.fns (presQ pre) c38.sigs) (hk : CpAll Try.prog c38.cps) (hi : ∀ xs ls, allHas (parIvs s38.params) xs → pre 38 xs ls → allHas iv38 xs)
    (h : ∀ (v0 v1 v2 : Int), allHas iv38 [v0, v1, v2] → allL (parLvs s38.params) [] → pre 38 [v0, v1, v2] [] → p38 T I M pre (fun ys _ => ys = T.app 38 [v0, v1, v2] []) v0 v1 v2) : CT Try.prog T.fns (presQ pre) 38 s38 :=
  T.ctg (F := ⟨c38, []⟩) (fuel := 250) vc38 Try.checked.mixed hs ht hg hC hk Try.func38 I M (fun xs ls h1 h2 h3 => ⟨hi xs ls h1 h3, h2⟩) fun xs ls hx hl hp => by
    match xs, ls, hx, hl, hp with
    | [v0, v1, v2], [], hx, hl, hp => rw [q38]; exact h v0 v1 v2 hx hl hp
/-- loop.example/g01242/impl.NeighboursOf -/
def s39 : Sig := ⟨[.val true [.i .i64, .i .i64], .val false [.i .i64]], [(true, [.i .i64, .i .i64]), (true, [.i .i64, .i .i64]), (false, [.i .i64])], true⟩
noncomputable def c39 : Cfg := ⟨Try.prog, [(83, s83), (84, s84), (85, s85), (87, s87)], [], [], []⟩
def iv39 : List Iv := [⟨(-9223372036854775808), 9223372036854775807⟩, ⟨(-9223372036854775808), 9223372036854775807⟩, ⟨(-9223372036854775808), 9223372036854775807⟩]
def t39 : VC :=
 (.call 83 (.e (.var 0) (.e (.var 1) (.e (.var 2) .nil))) 1
 (.ite (.not (.eq (.var 3) (.lit 0)))
  (.fin (.e (.lit 0) (.e (.lit 0) (.e (.lit 0) (.e (.lit 0) (.e (.var 3) .nil))))))
  (.need [(.pre 84 (.e (.var 0) (.e (.var 1) (.e (.var 2) .nil)))), (.pre 85 (.e (.var 0) (.e (.var 1) (.e (.var 2) .nil))))]
  (.call 84 (.e (.var 0) (.e (.var 1) (.e (.var 2) .nil))) 2
  (.call 85 (.e (.var 0) (.e (.var 1) (.e (.var 2) .nil))) 2
  (.call 87 (.e (.var 4) (.e (.var 5) .nil)) 1
  (.ite (.eq (.var 8) (.lit 1))
   (.call 87 (.e (.var 6) (.e (.var 7) .nil)) 1
   (.ite (.not (.eq (.var 9) (.lit 1)))
    (.fin (.e (.lit 0) (.e (.lit 0) (.e (.lit 0) (.e (.lit 0) (.e (.lit 3) .nil))))))
    (.fin (.e (.var 4) (.e (.var 5) (.e (.var 6) (.e (.var 7) (.e (.lit 0) .nil))))))))
   (.fin (.e (.lit 0) (.e (.lit 0) (.e (.lit 0) (.e (.lit 0) (.e (.lit 3) .nil)))))))))))))
theorem vc39 : vcOfI ⟨c39, []⟩ iv39 (parLvs s39.params) 250 Try.f39 s39 = t39 := by kernel_rfl
set_option linter.unusedVariables false in
def p39 (T : Tab) (I : Nat → Env → Env → Prop) (M : Nat → Env → Env → Nat) (pre : Nat → List Int → List (List Int) → Prop) (post : List Int → List (List Int) → Prop) (v0 v1 v2 : Int) : Prop :=
 ∀ v3 : Int, [v3] = T.out 83 1 [v0, v1, v2] →
 (((!decide ((v3 : Int) = 0)) = true →
  post [0, 0, 0, 0, v3] []) ∧ ((!decide ((v3 : Int) = 0)) = false →
  ((pre 84 [v0, v1, v2] [] ∧ pre 85 [v0, v1, v2] []) ∧ ((pre 84 [v0, v1, v2] [] ∧ pre 85 [v0, v1, v2] []) →
  ∀ v4 v5 : Int, [v4, v5] = T.out 84 2 [v0, v1, v2] →
  ∀ v6 v7 : Int, [v6, v7] = T.out 85 2 [v0, v1, v2] →
  ∀ v8 : Int, [v8] = T.out 87 1 [v4, v5] →
  ((decide ((v8 : Int) = 1) = true →
   ∀ v9 : Int, [v9] = T.out 87 1 [v6, v7] →
   (((!decide ((v9 : Int) = 1)) = true →
    post [0, 0, 0, 0, 3] []) ∧ ((!decide ((v9 : Int) = 1)) = false →
    post [v4, v5, v6, v7, 0] []))) ∧ (decide ((v8 : Int) = 1) = false →
   post [0, 0, 0, 0, 3] []))))))
theorem q39 (T : Tab) (I : Nat → Env → Env → Prop) (M : Nat → Env → Env → Nat) (pre : Nat → List Int → List (List Int) → Prop) (post : List Int → List (List Int) → Prop) (v0 v1 v2 : Int) : t39.plain T (presG pre I M) post ⟨[v0, v1, v2], []⟩ = p39 T I M pre post v0 v1 v2 := by kernel_rfl
theorem k39 (T : Tab) (I : Nat → Env → Env → Prop) (M : Nat → Env → Env → Nat) (pre : Nat → List Int → List (List Int) → Prop) (hs : SubSig T c39.sigs) (ht : TotG pre c39.sigs) (hg : T.sig 39 = some s39) (hC : CtAll Try.prog T.fns (presQ pre) c39.sigs) (hk : CpAll Try.prog c39.cps) (hi : ∀ xs ls, allHas (parIvs s39.params) xs → pre 39 xs ls → allHas iv39 xs)
    (h : ∀ (v0 v1 v2 : Int), allHas iv39 [v0, v1, v2] → allL (parLvs s39.params) [] → pre 39 [v0, v1, v2] [] → p39 T I M pre (fun ys _ => ys = T.app 39 [v0, v1, v2] []) v0 v1 v2) : CT Try.prog T.fns (presQ pre) 39 s39 :=
  T.ctg (F := ⟨c39, []⟩) (fuel := 250) vc39 Try.checked.mixed hs ht hg hC hk Try.func39 I M (fun xs ls h1 h2 h3 => ⟨hi xs ls h1 h3, h2⟩) fun xs ls hx hl hp => by
    match xs, ls, hx, hl, hp with
    | [v0, v1, v2], [], hx, hl, hp => rw [q39]; exact h v0 v1 v2 hx hl hp
/-- loop.example/g01242/laws.FnExactBestFraction -/
def s8 : Sig := ⟨[.val true [.i .i64, .i .i64], .val false [.i .i64]], [(false, [.b])], true⟩
noncomputable def c8 : Cfg := ⟨Try.prog, [(36, s36), (35, s35), (37, s37), (20, s20)], [], [], []⟩
def iv8 : List Iv := [⟨(-9223372036854775808), 9223372036854775807⟩, ⟨(-9223372036854775808), 9223372036854775807⟩, ⟨(-9223372036854775808), 9223372036854775807⟩]
def t8 : VC :=
 (.call 36 (.e (.var 0) (.e (.var 1) .nil)) 2
 (.call 35 (.e (.var 3) (.e (.var 4) (.e (.var 2) .nil))) 3
 (.call 36 (.e (.var 0) (.e (.var 1) .nil)) 2
 (.call 37 (.e (.var 8) (.e (.var 9) (.e (.var 2) .nil))) 3
 (.call 20 (.e (.var 10) (.e (.var 11) (.e (.var 5) (.e (.var 6) .nil)))) 1
 (.ite (.eq (.var 13) (.lit 1))
  (.ite (.not (.eq (.var 12) (.var 7)))
   (.fin (.e (.lit 0) .nil))
   (.fin (.e (.lit 1) .nil)))
  (.fin (.e (.lit 0) .nil))))))))
theorem vc8 : vcOfI ⟨c8, []⟩ iv8 (parLvs s8.params) 250 Try.f8 s8 = t8 := by kernel_rfl
set_option linter.unusedVariables false in
def p8 (T : Tab) (I : Nat → Env → Env → Prop) (M : Nat → Env → Env → Nat) (pre : Nat → List Int → List (List Int) → Prop) (post : List Int → List (List Int) → Prop) (v0 v1 v2 : Int) : Prop :=
 ∀ v3 v4 : Int, [v3, v4] = T.out 36 2 [v0, v1] →
 ∀ v5 v6 v7 : Int, [v5, v6, v7] = T.out 35 3 [v3, v4, v2] →
 ∀ v8 v9 : Int, [v8, v9] = T.out 36 2 [v0, v1] →
 ∀ v10 v11 v12 : Int, [v10, v11, v12] = T.out 37 3 [v8, v9, v2] →
 ∀ v13 : Int, [v13] = T.out 20 1 [v10, v11, v5, v6] →
 ((decide ((v13 : Int) = 1) = true →
  (((!decide ((v12 : Int) = v7)) = true →
   post [0] []) ∧ ((!decide ((v12 : Int) = v7)) = false →
   post [1] []))) ∧ (decide ((v13 : Int) = 1) = false →
  post [0] []))
theorem q8 (T : Tab) (I : Nat → Env → Env → Prop) (M : Nat → Env → Env → Nat) (pre : Nat → List Int → List (List Int) → Prop) (post : List Int → List (List Int) → Prop) (v0 v1 v2 : Int) : t8.plain T (presG pre I M) post ⟨[v0, v1, v2], []⟩ = p8 T I M pre post v0 v1 v2 := by kernel_rfl
theorem k8 (T : Tab) (I : Nat → Env → Env → Prop) (M : Nat → Env → Env → Nat) (pre : Nat → List Int → List (List Int) → Prop) (hs : SubSig T c8.sigs) (ht : TotG pre c8.sigs) (hg : T.sig 8 = some s8) (hC : CtAll Try.prog T.fns (presQ pre) c8.sigs) (hk : CpAll Try.prog c8.cps) (hi : ∀ xs ls, allHas (parIvs s8.params) xs → pre 8 xs ls → allHas iv8 xs)
    (h : ∀ (v0 v1 v2 : Int), allHas iv8 [v0, v1, v2] → allL (parLvs s8.params) [] → pre 8 [v0, v1, v2] [] → p8 T I M pre (fun ys _ => ys = T.app 8 [v0, v1, v2] []) v0 v1 v2) : CT Try.prog T.fns (presQ pre) 8 s8 :=
  T.ctg (F := ⟨c8, []⟩) (fuel := 250) vc8 Try.checked.mixed hs ht hg hC hk Try.func8 I M (fun xs ls h1 h2 h3 => ⟨hi xs ls h1 h3, h2⟩) fun xs ls hx hl hp => by
    match xs, ls, hx, hl, hp with
    | [v0, v1, v2], [], hx, hl, hp => rw [q8]; exact h v0 v1 v2 hx hl hp
/-- loop.example/g01242/laws.FnExactNeighboursOf -/
def s9 : Sig := ⟨[.val true [.i .i64, .i .i64], .val false [.i .i64]], [(false, [.b])], true⟩
noncomputable def c9 : Cfg := ⟨Try.prog, [(36, s36), (38, s38), (39, s39), (20, s20)], [], [], []⟩
def iv9 : List Iv := [⟨(-9223372036854775808), 9223372036854775807⟩, ⟨(-9223372036854775808), 9223372036854775807⟩, ⟨(-9223372036854775808), 9223372036854775807⟩]
def t9 : VC :=
 (.call 36 (.e (.var 0) (.e (.var 1) .nil)) 2
 (.call 38 (.e (.var 3) (.e (.var 4) (.e (.var 2) .nil))) 5
 (.call 36 (.e (.var 0) (.e (.var 1) .nil)) 2
 (.call 39 (.e (.var 10) (.e (.var 11) (.e (.var 2) .nil))) 5
 (.call 20 (.e (.var 12) (.e (.var 13) (.e (.var 5) (.e (.var 6) .nil)))) 1
 (.ite (.eq (.var 17) (.lit 1))
  (.call 20 (.e (.var 14) (.e (.var 15) (.e (.var 7) (.e (.var 8) .nil)))) 1
  (.ite (.eq (.var 18) (.lit 1))
   (.ite (.not (.eq (.var 16) (.var 9)))
    (.fin (.e (.lit 0) .nil))
    (.fin (.e (.lit 1) .nil)))
   (.fin (.e (.lit 0) .nil))))
  (.fin (.e (.lit 0) .nil))))))))
theorem vc9 : vcOfI ⟨c9, []⟩ iv9 (parLvs s9.params) 250 Try.f9 s9 = t9 := by kernel_rfl
set_option linter.unusedVariables false in
def p9 (T : Tab) (I : Nat → Env → Env → Prop) (M : Nat → Env → Env → Nat) (pre : Nat → List Int → List (List Int) → Prop) (post : List Int → List (List Int) → Prop) (v0 v1 v2 : Int) : Prop :=
 ∀ v3 v4 : Int, [v3, v4] = T.out 36 2 [v0, v1] →
 ∀ v5 v6 v7 v8 v9 : Int, [v5, v6, v7, v8, v9] = T.out 38 5 [v3, v4, v2] →
 ∀ v10 v11 : Int, [v10, v11] = T.out 36 2 [v0, v1] →
 ∀ v12 v13 v14 v15 v16 : Int, [v12, v13, v14, v15, v16] = T.out 39 5 [v10, v11, v2] →
 ∀ v17 : Int, [v17] = T.out 20 1 [v12, v13, v5, v6] →
 ((decide ((v17 : Int) = 1) = true →
  ∀ v18 : Int, [v18] = T.out 20 1 [v14, v15, v7, v8] →
  ((decide ((v18 : Int) = 1) = true →
   (((!decide ((v16 : Int) = v9)) = true →
    post [0] []) ∧ ((!decide ((v16 : Int) = v9)) = false →
    post [1] []))) ∧ (decide ((v18 : Int) = 1) = false →
   post [0] []))) ∧ (decide ((v17 : Int) = 1) = false →
  post [0] []))
theorem q9 (T : Tab) (I : Nat → Env → Env → Prop) (M : Nat → Env → Env → Nat) (pre : Nat → List Int → List (List Int) → Prop) (post : List Int → List (List Int) → Prop) (v0 v1 v2 : Int) : t9.plain T (presG pre I M) post ⟨[v0, v1, v2], []⟩ = p9 T I M pre post v0 v1 v2 := by kernel_rfl
theorem k9 (T : Tab) (I : Nat → Env → Env → Prop) (M : Nat → Env → Env → Nat) (pre : Nat → List Int → List (List Int) → Prop) (hs : SubSig T c9.sigs) (ht : TotG pre c9.sigs) (hg : T.sig 9 = some s9) (hC : CtAll Try.prog T.fns (presQ pre) c9.sigs) (hk : CpAll Try.prog c9.cps) (hi : ∀ xs ls, allHas (parIvs s9.params) xs → pre 9 xs ls → allHas iv9 xs)
    (h : ∀ (v0 v1 v2 : Int), allHas iv9 [v0, v1, v2] → allL (parLvs s9.params) [] → pre 9 [v0, v1, v2] [] → p9 T I M pre (fun ys _ => ys = T.app 9 [v0, v1, v2] []) v0 v1 v2) : CT Try.prog T.fns (presQ pre) 9 s9 :=
  T.ctg (F := ⟨c9, []⟩) (fuel := 250) vc9 Try.checked.mixed hs ht hg hC hk Try.func9 I M (fun xs ls h1 h2 h3 => ⟨hi xs ls h1 h3, h2⟩) fun xs ls hx hl hp => by
    match xs, ls, hx, hl, hp with
    | [v0, v1, v2], [], hx, hl, hp => rw [q9]; exact h v0 v1 v2 hx hl hp
end Go.Proofs.Ytjpcmjgogdemoaa.Sx
