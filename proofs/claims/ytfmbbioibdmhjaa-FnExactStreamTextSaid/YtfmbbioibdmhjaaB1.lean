import Derived.Test.YtfmbbioibdmhjaaSxX
import Derived.Test.YtfmbbioibdmhjaaSxZ
import Derived.Test.YtfmbbioibdmhjaaA1
import Derived.Test.YtfmbbioibdmhjaaChecked
import Derived.KernelRfl
namespace Go.Proofs.Ytfmbbioibdmhjaa.Sx
open Go Go.RowKit
/-- loop.example/g01242/laws.szInt8S -/
def s9 : Sig := ⟨[.lst [.i8], .val false [.i .i64]], [(false, [.i .i64])], true⟩
noncomputable def c9 : Cfg := ⟨Try.prog, [], [], [], [], [], [], [], 0, []⟩
def iv9 : List Iv := [⟨(-9223372036854775808), 9223372036854775807⟩]
def t9 : VC :=
 (.bind (.wrap .i64 (.sub (.var 0) (.len (.var 0))))
 (.ite (.lt (.var 1) (.lit 0))
  (.fin (.e (.lit (-1)) .nil))
  (.fin (.e (.var 1) .nil))))
theorem vc9 : vcOfI ⟨c9, []⟩ iv9 (parLvs s9.params) 250 Try.f9 s9 = t9 := by kernel_rfl
set_option linter.unusedVariables false in
def p9 (T : Tab) (I : Nat → Env → Env → Prop) (M : Nat → Env → Env → Nat) (pre : Nat → List Int → List (List Int) → Prop) (post : List Int → List (List Int) → Prop) (v0 : Int) (l0 : List Int) : Prop :=
 ∀ v1 : Int, v1 = (IntKind.wrap .i64 (v0 - (List.length l0 : Int))) →
 ((decide ((v1 : Int) < 0) = true →
  post [(-1)] []) ∧ (decide ((v1 : Int) < 0) = false →
  post [v1] []))
theorem q9 (T : Tab) (I : Nat → Env → Env → Prop) (M : Nat → Env → Env → Nat) (pre : Nat → List Int → List (List Int) → Prop) (post : List Int → List (List Int) → Prop) (v0 : Int) (l0 : List Int) : t9.plain T (presG pre I M) post ⟨[v0], [l0]⟩ = p9 T I M pre post v0 l0 := by kernel_rfl
theorem k9 (T : Tab) (I : Nat → Env → Env → Prop) (M : Nat → Env → Env → Nat) (pre : Nat → List Int → List (List Int) → Prop) (hs : SubSig T c9.sigs) (ht : TotG pre c9.sigs) (hg : T.sig 9 = some s9) (hC : CtAll Try.prog T.fns (presQ pre) c9.pfs c9.pty c9.cls c9.sigs) (hk : CpAll Try.prog c9.cps) (hi : ∀ xs ls, allHas (parIvs s9.params) xs → pre 9 xs ls → allHas iv9 xs)
    (h : ∀ (v0 : Int) (l0 : List Int), allHas iv9 [v0] → allL (parLvs s9.params) [l0] → pre 9 [v0] [l0] → p9 T I M pre (fun ys _ => ys = T.app 9 [v0] [l0]) v0 l0) : CT Try.prog T.fns (presQ pre) 9 s9 :=
  T.ctg (F := ⟨c9, []⟩) (fuel := 250) vc9 Try.checked.mixed hs ht hg hC hk Try.func9 I M (fun xs ls h1 h2 h3 => ⟨hi xs ls h1 h3, h2⟩) fun xs ls hx hl hp => by
    match xs, ls, hx, hl, hp with
    | [v0], [l0], hx, hl, hp => rw [q9]; exact h v0 l0 hx hl hp
/-- loop.example/g01242/laws.szStream -/
def s4 : Sig := ⟨[.lsts [[.i8], [.i8]], .val false [.i .i64]], [(false, [.i .i64])], true⟩
noncomputable def c4 : Cfg := ⟨Try.prog, [(9, s9)], [], [], [], [], [], [], 0, []⟩
def iv4 : List Iv := [⟨(-9223372036854775808), 9223372036854775807⟩]
def t4 : VC :=
 (.call 9 (.l (.var 0) (.e (.var 0) .nil)) 1
 (.ite (.lt (.var 1) (.lit 0))
  (.fin (.e (.lit (-1)) .nil))
  (.call 9 (.l (.var 1) (.e (.var 1) .nil)) 1
  (.ite (.lt (.var 2) (.lit 0))
   (.fin (.e (.lit (-1)) .nil))
   (.fin (.e (.var 2) .nil))))))
theorem vc4 : vcOfI ⟨c4, []⟩ iv4 (parLvs s4.params) 250 Try.f4 s4 = t4 := by kernel_rfl
set_option linter.unusedVariables false in
def p4 (T : Tab) (I : Nat → Env → Env → Prop) (M : Nat → Env → Env → Nat) (pre : Nat → List Int → List (List Int) → Prop) (post : List Int → List (List Int) → Prop) (v0 : Int) (l0 l1 : List Int) : Prop :=
 ∀ v1 : Int, [v1] = T.outL 9 1 [v0] [l0] →
 ((decide ((v1 : Int) < 0) = true →
  post [(-1)] []) ∧ (decide ((v1 : Int) < 0) = false →
  ∀ v2 : Int, [v2] = T.outL 9 1 [v1] [l1] →
  ((decide ((v2 : Int) < 0) = true →
   post [(-1)] []) ∧ (decide ((v2 : Int) < 0) = false →
   post [v2] []))))
theorem q4 (T : Tab) (I : Nat → Env → Env → Prop) (M : Nat → Env → Env → Nat) (pre : Nat → List Int → List (List Int) → Prop) (post : List Int → List (List Int) → Prop) (v0 : Int) (l0 l1 : List Int) : t4.plain T (presG pre I M) post ⟨[v0], [l0, l1]⟩ = p4 T I M pre post v0 l0 l1 := by kernel_rfl
theorem k4 (T : Tab) (I : Nat → Env → Env → Prop) (M : Nat → Env → Env → Nat) (pre : Nat → List Int → List (List Int) → Prop) (hs : SubSig T c4.sigs) (ht : TotG pre c4.sigs) (hg : T.sig 4 = some s4) (hC : CtAll Try.prog T.fns (presQ pre) c4.pfs c4.pty c4.cls c4.sigs) (hk : CpAll Try.prog c4.cps) (hi : ∀ xs ls, allHas (parIvs s4.params) xs → pre 4 xs ls → allHas iv4 xs)
    (h : ∀ (v0 : Int) (l0 l1 : List Int), allHas iv4 [v0] → allL (parLvs s4.params) [l0, l1] → pre 4 [v0] [l0, l1] → p4 T I M pre (fun ys _ => ys = T.app 4 [v0] [l0, l1]) v0 l0 l1) : CT Try.prog T.fns (presQ pre) 4 s4 :=
  T.ctg (F := ⟨c4, []⟩) (fuel := 250) vc4 Try.checked.mixed hs ht hg hC hk Try.func4 I M (fun xs ls h1 h2 h3 => ⟨hi xs ls h1 h3, h2⟩) fun xs ls hx hl hp => by
    match xs, ls, hx, hl, hp with
    | [v0], [l0, l1], hx, hl, hp => rw [q4]; exact h v0 l0 l1 hx hl hp
/-- loop.example/g01242/laws.eqInt8S -/
def s15 : Sig := ⟨[.lst [.i8], .lst [.i8]], [(false, [.b])], true⟩
noncomputable def c15 : Cfg := ⟨Try.prog, [], [], [], [], [], [], [], 0, []⟩
def iv15 : List Iv := []
def t15 : VC :=
 (.ite (.not (.eq (.len (.var 0)) (.len (.var 1))))
  (.fin (.e (.lit 0) .nil))
  (.loop 1 [(.lit 0)] [] [⟨(-9223372036854775808), 9223372036854775807⟩] []
   (.ite (.lt (.var 0) (.len (.var 0)))
    (.need [(.b (.le (.lit 0) (.var 0))), (.b (.lt (.var 0) (.len (.var 0)))), (.b (.lt (.add (.lit 0) (.var 0)) (.len (.var 0)))), (.b (.le (.lit 0) (.var 0))), (.b (.lt (.var 0) (.len (.var 1)))), (.b (.lt (.add (.lit 0) (.var 0)) (.len (.var 1))))]
    (.bind (.at (.var 0) (.add (.lit 0) (.var 0)))
    (.bind (.at (.var 1) (.add (.lit 0) (.var 0)))
    (.ite (.not (.eq (.at (.var 0) (.add (.lit 0) (.var 0))) (.at (.var 1) (.add (.lit 0) (.var 0)))))
     (.fin (.e (.lit 0) .nil))
     (.bind (.wrap .i64 (.add (.var 0) (.lit 1)))
     (.again 1 0 2 [⟨(-9223372036854775808), 9223372036854775807⟩] [(.var 3)] []))))))
    (.fin (.e (.lit 1) .nil)))))
theorem vc15 : vcOfI ⟨c15, [(4, ⟨1, [5], [], [11, 12, 13, 14, 17, 18, 19, 20, 21, 22, 23, 24, 25, 4, 15, 16], [⟨(-9223372036854775808), 9223372036854775807⟩], [], []⟩)]⟩ iv15 (parLvs s15.params) 250 Try.f15 s15 = t15 := by kernel_rfl
set_option linter.unusedVariables false in
def p15 (T : Tab) (I : Nat → Env → Env → Prop) (M : Nat → Env → Env → Nat) (pre : Nat → List Int → List (List Int) → Prop) (post : List Int → List (List Int) → Prop) (l0 l1 : List Int) : Prop :=
 (((!decide (((List.length l0 : Int) : Int) = (List.length l1 : Int))) = true →
  post [0] []) ∧ ((!decide (((List.length l0 : Int) : Int) = (List.length l1 : Int))) = false →
  ((allHas [⟨(-9223372036854775808), 9223372036854775807⟩] [0] ∧ I 1 ⟨[], [l0, l1]⟩ ⟨[0], []⟩) ∧ ∀ v0 : Int, allHas [⟨(-9223372036854775808), 9223372036854775807⟩] [v0] → I 1 ⟨[], [l0, l1]⟩ ⟨[v0], []⟩ →
   ((decide ((v0 : Int) < (List.length l0 : Int)) = true →
    ((decide ((0 : Int) ≤ v0) = true ∧ decide ((v0 : Int) < (List.length l0 : Int)) = true ∧ decide (((0 + v0) : Int) < (List.length l0 : Int)) = true ∧ decide ((0 : Int) ≤ v0) = true ∧ decide ((v0 : Int) < (List.length l1 : Int)) = true ∧ decide (((0 + v0) : Int) < (List.length l1 : Int)) = true) ∧ ((decide ((0 : Int) ≤ v0) = true ∧ decide ((v0 : Int) < (List.length l0 : Int)) = true ∧ decide (((0 + v0) : Int) < (List.length l0 : Int)) = true ∧ decide ((0 : Int) ≤ v0) = true ∧ decide ((v0 : Int) < (List.length l1 : Int)) = true ∧ decide (((0 + v0) : Int) < (List.length l1 : Int)) = true) →
    ∀ v1 : Int, v1 = (List.getD l0 (Int.toNat (0 + v0)) 0) →
    ∀ v2 : Int, v2 = (List.getD l1 (Int.toNat (0 + v0)) 0) →
    (((!decide (((List.getD l0 (Int.toNat (0 + v0)) 0) : Int) = (List.getD l1 (Int.toNat (0 + v0)) 0))) = true →
     post [0] []) ∧ ((!decide (((List.getD l0 (Int.toNat (0 + v0)) 0) : Int) = (List.getD l1 (Int.toNat (0 + v0)) 0))) = false →
     ∀ v3 : Int, v3 = (IntKind.wrap .i64 (v0 + 1)) →
     (allHas [⟨(-9223372036854775808), 9223372036854775807⟩] [v3] ∧ I 1 ⟨[], [l0, l1]⟩ ⟨[v3], []⟩ ∧ M 1 ⟨[], [l0, l1]⟩ ⟨[v3], []⟩ < M 1 ⟨[], [l0, l1]⟩ ⟨[v0], []⟩)))))) ∧ (decide ((v0 : Int) < (List.length l0 : Int)) = false →
    post [1] [])))))
theorem q15 (T : Tab) (I : Nat → Env → Env → Prop) (M : Nat → Env → Env → Nat) (pre : Nat → List Int → List (List Int) → Prop) (post : List Int → List (List Int) → Prop) (l0 l1 : List Int) : t15.plain T (presG pre I M) post ⟨[], [l0, l1]⟩ = p15 T I M pre post l0 l1 := by kernel_rfl
theorem k15 (T : Tab) (I : Nat → Env → Env → Prop) (M : Nat → Env → Env → Nat) (pre : Nat → List Int → List (List Int) → Prop) (hs : SubSig T c15.sigs) (ht : TotG pre c15.sigs) (hg : T.sig 15 = some s15) (hC : CtAll Try.prog T.fns (presQ pre) c15.pfs c15.pty c15.cls c15.sigs) (hk : CpAll Try.prog c15.cps) (hi : ∀ xs ls, allHas (parIvs s15.params) xs → pre 15 xs ls → allHas iv15 xs)
    (h : ∀ (l0 l1 : List Int), allHas iv15 [] → allL (parLvs s15.params) [l0, l1] → pre 15 [] [l0, l1] → p15 T I M pre (fun ys _ => ys = T.app 15 [] [l0, l1]) l0 l1) : CT Try.prog T.fns (presQ pre) 15 s15 :=
  T.ctg (F := ⟨c15, [(4, ⟨1, [5], [], [11, 12, 13, 14, 17, 18, 19, 20, 21, 22, 23, 24, 25, 4, 15, 16], [⟨(-9223372036854775808), 9223372036854775807⟩], [], []⟩)]⟩) (fuel := 250) vc15 Try.checked.mixed hs ht hg hC hk Try.func15 I M (fun xs ls h1 h2 h3 => ⟨hi xs ls h1 h3, h2⟩) fun xs ls hx hl hp => by
    match xs, ls, hx, hl, hp with
    | [], [l0, l1], hx, hl, hp => rw [q15]; exact h l0 l1 hx hl hp
/-- loop.example/g01242/laws.eqStream -/
def s8 : Sig := ⟨[.lsts [[.i8], [.i8]], .lsts [[.i8], [.i8]]], [(false, [.b])], true⟩
noncomputable def c8 : Cfg := ⟨Try.prog, [(15, s15)], [], [], [], [], [], [], 0, []⟩
def iv8 : List Iv := []
def t8 : VC :=
 (.call 15 (.l (.var 0) (.l (.var 2) .nil)) 1
 (.ite (.not (.eq (.var 0) (.lit 1)))
  (.fin (.e (.lit 0) .nil))
  (.call 15 (.l (.var 1) (.l (.var 3) .nil)) 1
  (.ite (.not (.eq (.var 1) (.lit 1)))
   (.fin (.e (.lit 0) .nil))
   (.fin (.e (.lit 1) .nil))))))
theorem vc8 : vcOfI ⟨c8, []⟩ iv8 (parLvs s8.params) 250 Try.f8 s8 = t8 := by kernel_rfl
set_option linter.unusedVariables false in
def p8 (T : Tab) (I : Nat → Env → Env → Prop) (M : Nat → Env → Env → Nat) (pre : Nat → List Int → List (List Int) → Prop) (post : List Int → List (List Int) → Prop) (l0 l1 l2 l3 : List Int) : Prop :=
 ∀ v0 : Int, [v0] = T.outL 15 1 [] [l0, l2] →
 (((!decide ((v0 : Int) = 1)) = true →
  post [0] []) ∧ ((!decide ((v0 : Int) = 1)) = false →
  ∀ v1 : Int, [v1] = T.outL 15 1 [] [l1, l3] →
  (((!decide ((v1 : Int) = 1)) = true →
   post [0] []) ∧ ((!decide ((v1 : Int) = 1)) = false →
   post [1] []))))
theorem q8 (T : Tab) (I : Nat → Env → Env → Prop) (M : Nat → Env → Env → Nat) (pre : Nat → List Int → List (List Int) → Prop) (post : List Int → List (List Int) → Prop) (l0 l1 l2 l3 : List Int) : t8.plain T (presG pre I M) post ⟨[], [l0, l1, l2, l3]⟩ = p8 T I M pre post l0 l1 l2 l3 := by kernel_rfl
theorem k8 (T : Tab) (I : Nat → Env → Env → Prop) (M : Nat → Env → Env → Nat) (pre : Nat → List Int → List (List Int) → Prop) (hs : SubSig T c8.sigs) (ht : TotG pre c8.sigs) (hg : T.sig 8 = some s8) (hC : CtAll Try.prog T.fns (presQ pre) c8.pfs c8.pty c8.cls c8.sigs) (hk : CpAll Try.prog c8.cps) (hi : ∀ xs ls, allHas (parIvs s8.params) xs → pre 8 xs ls → allHas iv8 xs)
    (h : ∀ (l0 l1 l2 l3 : List Int), allHas iv8 [] → allL (parLvs s8.params) [l0, l1, l2, l3] → pre 8 [] [l0, l1, l2, l3] → p8 T I M pre (fun ys _ => ys = T.app 8 [] [l0, l1, l2, l3]) l0 l1 l2 l3) : CT Try.prog T.fns (presQ pre) 8 s8 :=
  T.ctg (F := ⟨c8, []⟩) (fuel := 250) vc8 Try.checked.mixed hs ht hg hC hk Try.func8 I M (fun xs ls h1 h2 h3 => ⟨hi xs ls h1 h3, h2⟩) fun xs ls hx hl hp => by
    match xs, ls, hx, hl, hp with
    | [], [l0, l1, l2, l3], hx, hl, hp => rw [q8]; exact h l0 l1 l2 l3 hx hl hp
/-- loop.example/g01242/spec.l00In -/
def s16 : Sig := ⟨[.val false [.i .i64], .val false [.i .i64], .val false [.i .i64]], [(false, [.b])], true⟩
noncomputable def c16 : Cfg := ⟨Try.prog, [], [], [], [], [], [], [], 0, []⟩
def iv16 : List Iv := [⟨(-9223372036854775808), 9223372036854775807⟩, ⟨(-9223372036854775808), 9223372036854775807⟩, ⟨(-9223372036854775808), 9223372036854775807⟩]
def t16 : VC :=
 (.ite (.le (.var 1) (.var 0))
  (.fin (.e (.ite (.le (.var 0) (.var 2)) (.lit 1) (.lit 0)) .nil))
  (.fin (.e (.lit 0) .nil)))
theorem vc16 : vcOfI ⟨c16, []⟩ iv16 (parLvs s16.params) 250 Try.f16 s16 = t16 := by kernel_rfl
set_option linter.unusedVariables false in
def p16 (T : Tab) (I : Nat → Env → Env → Prop) (M : Nat → Env → Env → Nat) (pre : Nat → List Int → List (List Int) → Prop) (post : List Int → List (List Int) → Prop) (v0 v1 v2 : Int) : Prop :=
 ((decide ((v1 : Int) ≤ v0) = true →
  post [(if decide ((v0 : Int) ≤ v2) = true then 1 else 0)] []) ∧ (decide ((v1 : Int) ≤ v0) = false →
  post [0] []))
theorem q16 (T : Tab) (I : Nat → Env → Env → Prop) (M : Nat → Env → Env → Nat) (pre : Nat → List Int → List (List Int) → Prop) (post : List Int → List (List Int) → Prop) (v0 v1 v2 : Int) : t16.plain T (presG pre I M) post ⟨[v0, v1, v2], []⟩ = p16 T I M pre post v0 v1 v2 := by kernel_rfl
theorem k16 (T : Tab) (I : Nat → Env → Env → Prop) (M : Nat → Env → Env → Nat) (pre : Nat → List Int → List (List Int) → Prop) (hs : SubSig T c16.sigs) (ht : TotG pre c16.sigs) (hg : T.sig 16 = some s16) (hC : CtAll Try.prog T.fns (presQ pre) c16.pfs c16.pty c16.cls c16.sigs) (hk : CpAll Try.prog c16.cps) (hi : ∀ xs ls, allHas (parIvs s16.params) xs → pre 16 xs ls → allHas iv16 xs)
    (h : ∀ (v0 v1 v2 : Int), allHas iv16 [v0, v1, v2] → allL (parLvs s16.params) [] → pre 16 [v0, v1, v2] [] → p16 T I M pre (fun ys _ => ys = T.app 16 [v0, v1, v2] []) v0 v1 v2) : CT Try.prog T.fns (presQ pre) 16 s16 :=
  T.ctg (F := ⟨c16, []⟩) (fuel := 250) vc16 Try.checked.mixed hs ht hg hC hk Try.func16 I M (fun xs ls h1 h2 h3 => ⟨hi xs ls h1 h3, h2⟩) fun xs ls hx hl hp => by
    match xs, ls, hx, hl, hp with
    | [v0, v1, v2], [], hx, hl, hp => rw [q16]; exact h v0 v1 v2 hx hl hp
/-- loop.example/g01242/spec.l03Digits -/
def s17 : Sig := ⟨[.lst [.i8]], [(false, [.b])], true⟩
noncomputable def c17 : Cfg := ⟨Try.prog, [], [], [], [], [], [], [], 0, []⟩
def iv17 : List Iv := []
def t17 : VC :=
 (.loop 1 [(.lit 0)] [] [⟨(-9223372036854775808), 9223372036854775807⟩] []
  (.ite (.lt (.var 0) (.len (.var 0)))
   (.need [(.b (.le (.lit 0) (.var 0))), (.b (.lt (.var 0) (.len (.var 0))))]
   (.need [(.b (.lt (.add (.lit 0) (.var 0)) (.len (.var 0))))]
   (.bind (.at (.var 0) (.add (.lit 0) (.var 0)))
   (.ite (.le (.lit (-1)) (.var 1))
    (.need [(.b (.le (.lit 0) (.var 0))), (.b (.lt (.var 0) (.len (.var 0))))]
    (.need [(.b (.lt (.add (.lit 0) (.var 0)) (.len (.var 0))))]
    (.bind (.at (.var 0) (.add (.lit 0) (.var 0)))
    (.ite (.lt (.lit 1) (.var 2))
     (.fin (.e (.lit 0) .nil))
     (.bind (.wrap .i64 (.add (.var 0) (.lit 1)))
     (.again 1 0 1 [⟨(-9223372036854775808), 9223372036854775807⟩] [(.var 3)] []))))))
    (.fin (.e (.lit 0) .nil))))))
   (.fin (.e (.lit 1) .nil))))
theorem vc17 : vcOfI ⟨c17, [(2, ⟨1, [3], [], [4, 5, 6, 7, 10, 11, 12, 13, 14, 15, 16, 17, 18, 19, 20, 21, 2, 8, 9], [⟨(-9223372036854775808), 9223372036854775807⟩], [], []⟩)]⟩ iv17 (parLvs s17.params) 250 Try.f17 s17 = t17 := by kernel_rfl
set_option linter.unusedVariables false in
def p17 (T : Tab) (I : Nat → Env → Env → Prop) (M : Nat → Env → Env → Nat) (pre : Nat → List Int → List (List Int) → Prop) (post : List Int → List (List Int) → Prop) (l0 : List Int) : Prop :=
 ((allHas [⟨(-9223372036854775808), 9223372036854775807⟩] [0] ∧ I 1 ⟨[], [l0]⟩ ⟨[0], []⟩) ∧ ∀ v0 : Int, allHas [⟨(-9223372036854775808), 9223372036854775807⟩] [v0] → I 1 ⟨[], [l0]⟩ ⟨[v0], []⟩ →
  ((decide ((v0 : Int) < (List.length l0 : Int)) = true →
   ((decide ((0 : Int) ≤ v0) = true ∧ decide ((v0 : Int) < (List.length l0 : Int)) = true) ∧ ((decide ((0 : Int) ≤ v0) = true ∧ decide ((v0 : Int) < (List.length l0 : Int)) = true) →
   ((decide (((0 + v0) : Int) < (List.length l0 : Int)) = true) ∧ ((decide (((0 + v0) : Int) < (List.length l0 : Int)) = true) →
   ∀ v1 : Int, v1 = (List.getD l0 (Int.toNat (0 + v0)) 0) →
   ((decide (((-1) : Int) ≤ v1) = true →
    ((decide ((0 : Int) ≤ v0) = true ∧ decide ((v0 : Int) < (List.length l0 : Int)) = true) ∧ ((decide ((0 : Int) ≤ v0) = true ∧ decide ((v0 : Int) < (List.length l0 : Int)) = true) →
    ((decide (((0 + v0) : Int) < (List.length l0 : Int)) = true) ∧ ((decide (((0 + v0) : Int) < (List.length l0 : Int)) = true) →
    ∀ v2 : Int, v2 = (List.getD l0 (Int.toNat (0 + v0)) 0) →
    ((decide ((1 : Int) < v2) = true →
     post [0] []) ∧ (decide ((1 : Int) < v2) = false →
     ∀ v3 : Int, v3 = (IntKind.wrap .i64 (v0 + 1)) →
     (allHas [⟨(-9223372036854775808), 9223372036854775807⟩] [v3] ∧ I 1 ⟨[], [l0]⟩ ⟨[v3], []⟩ ∧ M 1 ⟨[], [l0]⟩ ⟨[v3], []⟩ < M 1 ⟨[], [l0]⟩ ⟨[v0], []⟩)))))))) ∧ (decide (((-1) : Int) ≤ v1) = false →
    post [0] []))))))) ∧ (decide ((v0 : Int) < (List.length l0 : Int)) = false →
   post [1] [])))
theorem q17 (T : Tab) (I : Nat → Env → Env → Prop) (M : Nat → Env → Env → Nat) (pre : Nat → List Int → List (List Int) → Prop) (post : List Int → List (List Int) → Prop) (l0 : List Int) : t17.plain T (presG pre I M) post ⟨[], [l0]⟩ = p17 T I M pre post l0 := by kernel_rfl
theorem k17 (T : Tab) (I : Nat → Env → Env → Prop) (M : Nat → Env → Env → Nat) (pre : Nat → List Int → List (List Int) → Prop) (hs : SubSig T c17.sigs) (ht : TotG pre c17.sigs) (hg : T.sig 17 = some s17) (hC : CtAll Try.prog T.fns (presQ pre) c17.pfs c17.pty c17.cls c17.sigs) (hk : CpAll Try.prog c17.cps) (hi : ∀ xs ls, allHas (parIvs s17.params) xs → pre 17 xs ls → allHas iv17 xs)
    (h : ∀ (l0 : List Int), allHas iv17 [] → allL (parLvs s17.params) [l0] → pre 17 [] [l0] → p17 T I M pre (fun ys _ => ys = T.app 17 [] [l0]) l0) : CT Try.prog T.fns (presQ pre) 17 s17 :=
  T.ctg (F := ⟨c17, [(2, ⟨1, [3], [], [4, 5, 6, 7, 10, 11, 12, 13, 14, 15, 16, 17, 18, 19, 20, 21, 2, 8, 9], [⟨(-9223372036854775808), 9223372036854775807⟩], [], []⟩)]⟩) (fuel := 250) vc17 Try.checked.mixed hs ht hg hC hk Try.func17 I M (fun xs ls h1 h2 h3 => ⟨hi xs ls h1 h3, h2⟩) fun xs ls hx hl hp => by
    match xs, ls, hx, hl, hp with
    | [], [l0], hx, hl, hp => rw [q17]; exact h l0 hx hl hp
/-- loop.example/g01242/impl.isNoDigit -/
def s19 : Sig := ⟨[.val false [.i .i8]], [(false, [.b])], true⟩
noncomputable def c19 : Cfg := ⟨Try.prog, [], [], [], [], [], [], [], 0, []⟩
def iv19 : List Iv := [⟨(-128), 127⟩]
def t19 : VC :=
 (.ite (.le (.lit (-1)) (.var 0))
  (.fin (.e (.ite (.lt (.lit 1) (.var 0)) (.lit 1) (.lit 0)) .nil))
  (.fin (.e (.lit 1) .nil)))
theorem vc19 : vcOfI ⟨c19, []⟩ iv19 (parLvs s19.params) 250 Try.f19 s19 = t19 := by kernel_rfl
set_option linter.unusedVariables false in
def p19 (T : Tab) (I : Nat → Env → Env → Prop) (M : Nat → Env → Env → Nat) (pre : Nat → List Int → List (List Int) → Prop) (post : List Int → List (List Int) → Prop) (v0 : Int) : Prop :=
 ((decide (((-1) : Int) ≤ v0) = true →
  post [(if decide ((1 : Int) < v0) = true then 1 else 0)] []) ∧ (decide (((-1) : Int) ≤ v0) = false →
  post [1] []))
theorem q19 (T : Tab) (I : Nat → Env → Env → Prop) (M : Nat → Env → Env → Nat) (pre : Nat → List Int → List (List Int) → Prop) (post : List Int → List (List Int) → Prop) (v0 : Int) : t19.plain T (presG pre I M) post ⟨[v0], []⟩ = p19 T I M pre post v0 := by kernel_rfl
theorem k19 (T : Tab) (I : Nat → Env → Env → Prop) (M : Nat → Env → Env → Nat) (pre : Nat → List Int → List (List Int) → Prop) (hs : SubSig T c19.sigs) (ht : TotG pre c19.sigs) (hg : T.sig 19 = some s19) (hC : CtAll Try.prog T.fns (presQ pre) c19.pfs c19.pty c19.cls c19.sigs) (hk : CpAll Try.prog c19.cps) (hi : ∀ xs ls, allHas (parIvs s19.params) xs → pre 19 xs ls → allHas iv19 xs)
    (h : ∀ (v0 : Int), allHas iv19 [v0] → allL (parLvs s19.params) [] → pre 19 [v0] [] → p19 T I M pre (fun ys _ => ys = T.app 19 [v0] []) v0) : CT Try.prog T.fns (presQ pre) 19 s19 :=
  T.ctg (F := ⟨c19, []⟩) (fuel := 250) vc19 Try.checked.mixed hs ht hg hC hk Try.func19 I M (fun xs ls h1 h2 h3 => ⟨hi xs ls h1 h3, h2⟩) fun xs ls hx hl hp => by
    match xs, ls, hx, hl, hp with
    | [v0], [], hx, hl, hp => rw [q19]; exact h v0 hx hl hp
/-- slices.IndexFunc[[]int8,int8] -/
def s22 : Sig := ⟨[.lst [.i8], .fnc 19], [(false, [.i .i64])], true⟩
noncomputable def c22 : Cfg := ⟨Try.prog, [(19, s19)], [], [], [], [], [], [], 0, []⟩
def iv22 : List Iv := []
def t22 : VC :=
 (.loop 1 [(.lit 0)] [] [⟨(-9223372036854775808), 9223372036854775807⟩] []
  (.ite (.lt (.var 0) (.len (.var 0)))
   (.need [(.b (.le (.lit 0) (.var 0))), (.b (.lt (.var 0) (.len (.var 0))))]
   (.need [(.b (.lt (.add (.lit 0) (.var 0)) (.len (.var 0))))]
   (.bind (.at (.var 0) (.add (.lit 0) (.var 0)))
   (.call 19 (.e (.var 1) .nil) 1
   (.ite (.eq (.var 2) (.lit 1))
    (.fin (.e (.var 0) .nil))
    (.again 1 0 1 [⟨(-9223372036854775808), 9223372036854775807⟩] [(.wrap .i64 (.add (.var 0) (.lit 1)))] []))))))
   (.fin (.e (.lit (-1)) .nil))))
theorem vc22 : vcOfI ⟨c22, [(2, ⟨1, [8], [], [9, 10, 5, 11, 12, 13, 14, 15, 16, 17, 4, 18], [⟨(-9223372036854775808), 9223372036854775807⟩], [], []⟩)]⟩ iv22 (parLvs s22.params) 250 Try.f22 s22 = t22 := by kernel_rfl
set_option linter.unusedVariables false in
def p22 (T : Tab) (I : Nat → Env → Env → Prop) (M : Nat → Env → Env → Nat) (pre : Nat → List Int → List (List Int) → Prop) (post : List Int → List (List Int) → Prop) (l0 : List Int) : Prop :=
 ((allHas [⟨(-9223372036854775808), 9223372036854775807⟩] [0] ∧ I 1 ⟨[], [l0]⟩ ⟨[0], []⟩) ∧ ∀ v0 : Int, allHas [⟨(-9223372036854775808), 9223372036854775807⟩] [v0] → I 1 ⟨[], [l0]⟩ ⟨[v0], []⟩ →
  ((decide ((v0 : Int) < (List.length l0 : Int)) = true →
   ((decide ((0 : Int) ≤ v0) = true ∧ decide ((v0 : Int) < (List.length l0 : Int)) = true) ∧ ((decide ((0 : Int) ≤ v0) = true ∧ decide ((v0 : Int) < (List.length l0 : Int)) = true) →
   ((decide (((0 + v0) : Int) < (List.length l0 : Int)) = true) ∧ ((decide (((0 + v0) : Int) < (List.length l0 : Int)) = true) →
   ∀ v1 : Int, v1 = (List.getD l0 (Int.toNat (0 + v0)) 0) →
   ∀ v2 : Int, [v2] = T.out 19 1 [v1] →
   ((decide ((v2 : Int) = 1) = true →
    post [v0] []) ∧ (decide ((v2 : Int) = 1) = false →
    (allHas [⟨(-9223372036854775808), 9223372036854775807⟩] [(IntKind.wrap .i64 (v0 + 1))] ∧ I 1 ⟨[], [l0]⟩ ⟨[(IntKind.wrap .i64 (v0 + 1))], []⟩ ∧ M 1 ⟨[], [l0]⟩ ⟨[(IntKind.wrap .i64 (v0 + 1))], []⟩ < M 1 ⟨[], [l0]⟩ ⟨[v0], []⟩)))))))) ∧ (decide ((v0 : Int) < (List.length l0 : Int)) = false →
   post [(-1)] [])))
theorem q22 (T : Tab) (I : Nat → Env → Env → Prop) (M : Nat → Env → Env → Nat) (pre : Nat → List Int → List (List Int) → Prop) (post : List Int → List (List Int) → Prop) (l0 : List Int) : t22.plain T (presG pre I M) post ⟨[], [l0]⟩ = p22 T I M pre post l0 := by kernel_rfl
theorem k22 (T : Tab) (I : Nat → Env → Env → Prop) (M : Nat → Env → Env → Nat) (pre : Nat → List Int → List (List Int) → Prop) (hs : SubSig T c22.sigs) (ht : TotG pre c22.sigs) (hg : T.sig 22 = some s22) (hC : CtAll Try.prog T.fns (presQ pre) c22.pfs c22.pty c22.cls c22.sigs) (hk : CpAll Try.prog c22.cps) (hi : ∀ xs ls, allHas (parIvs s22.params) xs → pre 22 xs ls → allHas iv22 xs)
    (h : ∀ (l0 : List Int), allHas iv22 [] → allL (parLvs s22.params) [l0] → pre 22 [] [l0] → p22 T I M pre (fun ys _ => ys = T.app 22 [] [l0]) l0) : CT Try.prog T.fns (presQ pre) 22 s22 :=
  T.ctg (F := ⟨c22, [(2, ⟨1, [8], [], [9, 10, 5, 11, 12, 13, 14, 15, 16, 17, 4, 18], [⟨(-9223372036854775808), 9223372036854775807⟩], [], []⟩)]⟩) (fuel := 250) vc22 Try.checked.mixed hs ht hg hC hk Try.func22 I M (fun xs ls h1 h2 h3 => ⟨hi xs ls h1 h3, h2⟩) fun xs ls hx hl hp => by
    match xs, ls, hx, hl, hp with
    | [], [l0], hx, hl, hp => rw [q22]; exact h l0 hx hl hp
/-- slices.ContainsFunc[[]int8,int8] -/
def s18 : Sig := ⟨[.lst [.i8], .fnc 19], [(false, [.b])], true⟩
noncomputable def c18 : Cfg := ⟨Try.prog, [(22, s22)], [], [], [], [], [], [], 0, []⟩
def iv18 : List Iv := []
def t18 : VC :=
 (.call 22 (.l (.var 0) .nil) 1
 (.fin (.e (.ite (.le (.lit 0) (.var 0)) (.lit 1) (.lit 0)) .nil)))
theorem vc18 : vcOfI ⟨c18, []⟩ iv18 (parLvs s18.params) 250 Try.f18 s18 = t18 := by kernel_rfl
set_option linter.unusedVariables false in
def p18 (T : Tab) (I : Nat → Env → Env → Prop) (M : Nat → Env → Env → Nat) (pre : Nat → List Int → List (List Int) → Prop) (post : List Int → List (List Int) → Prop) (l0 : List Int) : Prop :=
 ∀ v0 : Int, [v0] = T.outL 22 1 [] [l0] →
 post [(if decide ((0 : Int) ≤ v0) = true then 1 else 0)] []
theorem q18 (T : Tab) (I : Nat → Env → Env → Prop) (M : Nat → Env → Env → Nat) (pre : Nat → List Int → List (List Int) → Prop) (post : List Int → List (List Int) → Prop) (l0 : List Int) : t18.plain T (presG pre I M) post ⟨[], [l0]⟩ = p18 T I M pre post l0 := by kernel_rfl
theorem k18 (T : Tab) (I : Nat → Env → Env → Prop) (M : Nat → Env → Env → Nat) (pre : Nat → List Int → List (List Int) → Prop) (hs : SubSig T c18.sigs) (ht : TotG pre c18.sigs) (hg : T.sig 18 = some s18) (hC : CtAll Try.prog T.fns (presQ pre) c18.pfs c18.pty c18.cls c18.sigs) (hk : CpAll Try.prog c18.cps) (hi : ∀ xs ls, allHas (parIvs s18.params) xs → pre 18 xs ls → allHas iv18 xs)
    (h : ∀ (l0 : List Int), allHas iv18 [] → allL (parLvs s18.params) [l0] → pre 18 [] [l0] → p18 T I M pre (fun ys _ => ys = T.app 18 [] [l0]) l0) : CT Try.prog T.fns (presQ pre) 18 s18 :=
  T.ctg (F := ⟨c18, []⟩) (fuel := 250) vc18 Try.checked.mixed hs ht hg hC hk Try.func18 I M (fun xs ls h1 h2 h3 => ⟨hi xs ls h1 h3, h2⟩) fun xs ls hx hl hp => by
    match xs, ls, hx, hl, hp with
    | [], [l0], hx, hl, hp => rw [q18]; exact h l0 hx hl hp
/-- loop.example/g01242/spec.l03Ok -/
def s10 : Sig := ⟨[.plsts [[.i8], [.i8]]], [(false, [.b])], true⟩
noncomputable def c10 : Cfg := ⟨Try.prog, [(16, s16), (17, s17)], [], [], [], [], [], [], 0, []⟩
def iv10 : List Iv := []
def t10 : VC :=
 (.ite (.le (.len (.var 0)) (.lit 16))
  (.call 16 (.e (.len (.var 1)) (.e (.lit 1) (.e (.lit 14) .nil))) 1
  (.ite (.eq (.var 0) (.lit 1))
   (.call 17 (.l (.var 0) .nil) 1
   (.ite (.eq (.var 1) (.lit 1))
    (.call 17 (.l (.var 1) .nil) 1
    (.fin (.e (.var 2) .nil)))
    (.fin (.e (.lit 0) .nil))))
   (.fin (.e (.lit 0) .nil))))
  (.fin (.e (.lit 0) .nil)))
theorem vc10 : vcOfI ⟨c10, []⟩ iv10 (parLvs s10.params) 250 Try.f10 s10 = t10 := by kernel_rfl
set_option linter.unusedVariables false in
def p10 (T : Tab) (I : Nat → Env → Env → Prop) (M : Nat → Env → Env → Nat) (pre : Nat → List Int → List (List Int) → Prop) (post : List Int → List (List Int) → Prop) (l0 l1 : List Int) : Prop :=
 ((decide (((List.length l0 : Int) : Int) ≤ 16) = true →
  ∀ v0 : Int, [v0] = T.out 16 1 [(List.length l1 : Int), 1, 14] →
  ((decide ((v0 : Int) = 1) = true →
   ∀ v1 : Int, [v1] = T.outL 17 1 [] [l0] →
   ((decide ((v1 : Int) = 1) = true →
    ∀ v2 : Int, [v2] = T.outL 17 1 [] [l1] →
    post [v2] []) ∧ (decide ((v1 : Int) = 1) = false →
    post [0] []))) ∧ (decide ((v0 : Int) = 1) = false →
   post [0] []))) ∧ (decide (((List.length l0 : Int) : Int) ≤ 16) = false →
  post [0] []))
theorem q10 (T : Tab) (I : Nat → Env → Env → Prop) (M : Nat → Env → Env → Nat) (pre : Nat → List Int → List (List Int) → Prop) (post : List Int → List (List Int) → Prop) (l0 l1 : List Int) : t10.plain T (presG pre I M) post ⟨[], [l0, l1]⟩ = p10 T I M pre post l0 l1 := by kernel_rfl
theorem k10 (T : Tab) (I : Nat → Env → Env → Prop) (M : Nat → Env → Env → Nat) (pre : Nat → List Int → List (List Int) → Prop) (hs : SubSig T c10.sigs) (ht : TotG pre c10.sigs) (hg : T.sig 10 = some s10) (hC : CtAll Try.prog T.fns (presQ pre) c10.pfs c10.pty c10.cls c10.sigs) (hk : CpAll Try.prog c10.cps) (hi : ∀ xs ls, allHas (parIvs s10.params) xs → pre 10 xs ls → allHas iv10 xs)
    (h : ∀ (l0 l1 : List Int), allHas iv10 [] → allL (parLvs s10.params) [l0, l1] → pre 10 [] [l0, l1] → p10 T I M pre (fun ys _ => ys = T.app 10 [] [l0, l1]) l0 l1) : CT Try.prog T.fns (presQ pre) 10 s10 :=
  T.ctg (F := ⟨c10, []⟩) (fuel := 250) vc10 Try.checked.mixed hs ht hg hC hk Try.func10 I M (fun xs ls h1 h2 h3 => ⟨hi xs ls h1 h3, h2⟩) fun xs ls hx hl hp => by
    match xs, ls, hx, hl, hp with
    | [], [l0, l1], hx, hl, hp => rw [q10]; exact h l0 l1 hx hl hp
/-- loop.example/g01242/impl.ValidStream -/
def s13 : Sig := ⟨[.lsts [[.i8], [.i8]]], [(false, [.b])], true⟩
noncomputable def c13 : Cfg := ⟨Try.prog, [(18, s18)], [], [], [], [], [], [], 0, []⟩
def iv13 : List Iv := []
def t13 : VC :=
 (.ite (.le (.len (.var 0)) (.lit 16))
  (.ite (.le (.lit 1) (.len (.var 1)))
   (.ite (.lt (.lit 14) (.len (.var 1)))
    (.fin (.e (.lit 0) .nil))
    (.call 18 (.l (.var 0) .nil) 1
    (.ite (.not (.eq (.var 0) (.lit 1)))
     (.call 18 (.l (.var 1) .nil) 1
     (.fin (.e (.ite (.not (.eq (.var 1) (.lit 1))) (.lit 1) (.lit 0)) .nil)))
     (.fin (.e (.lit 0) .nil)))))
   (.fin (.e (.lit 0) .nil)))
  (.fin (.e (.lit 0) .nil)))
theorem vc13 : vcOfI ⟨c13, []⟩ iv13 (parLvs s13.params) 250 Try.f13 s13 = t13 := by kernel_rfl
set_option linter.unusedVariables false in
def p13 (T : Tab) (I : Nat → Env → Env → Prop) (M : Nat → Env → Env → Nat) (pre : Nat → List Int → List (List Int) → Prop) (post : List Int → List (List Int) → Prop) (l0 l1 : List Int) : Prop :=
 ((decide (((List.length l0 : Int) : Int) ≤ 16) = true →
  ((decide ((1 : Int) ≤ (List.length l1 : Int)) = true →
   ((decide ((14 : Int) < (List.length l1 : Int)) = true →
    post [0] []) ∧ (decide ((14 : Int) < (List.length l1 : Int)) = false →
    ∀ v0 : Int, [v0] = T.outL 18 1 [] [l0] →
    (((!decide ((v0 : Int) = 1)) = true →
     ∀ v1 : Int, [v1] = T.outL 18 1 [] [l1] →
     post [(if (!decide ((v1 : Int) = 1)) = true then 1 else 0)] []) ∧ ((!decide ((v0 : Int) = 1)) = false →
     post [0] []))))) ∧ (decide ((1 : Int) ≤ (List.length l1 : Int)) = false →
   post [0] []))) ∧ (decide (((List.length l0 : Int) : Int) ≤ 16) = false →
  post [0] []))
theorem q13 (T : Tab) (I : Nat → Env → Env → Prop) (M : Nat → Env → Env → Nat) (pre : Nat → List Int → List (List Int) → Prop) (post : List Int → List (List Int) → Prop) (l0 l1 : List Int) : t13.plain T (presG pre I M) post ⟨[], [l0, l1]⟩ = p13 T I M pre post l0 l1 := by kernel_rfl
theorem k13 (T : Tab) (I : Nat → Env → Env → Prop) (M : Nat → Env → Env → Nat) (pre : Nat → List Int → List (List Int) → Prop) (hs : SubSig T c13.sigs) (ht : TotG pre c13.sigs) (hg : T.sig 13 = some s13) (hC : CtAll Try.prog T.fns (presQ pre) c13.pfs c13.pty c13.cls c13.sigs) (hk : CpAll Try.prog c13.cps) (hi : ∀ xs ls, allHas (parIvs s13.params) xs → pre 13 xs ls → allHas iv13 xs)
    (h : ∀ (l0 l1 : List Int), allHas iv13 [] → allL (parLvs s13.params) [l0, l1] → pre 13 [] [l0, l1] → p13 T I M pre (fun ys _ => ys = T.app 13 [] [l0, l1]) l0 l1) : CT Try.prog T.fns (presQ pre) 13 s13 :=
  T.ctg (F := ⟨c13, []⟩) (fuel := 250) vc13 Try.checked.mixed hs ht hg hC hk Try.func13 I M (fun xs ls h1 h2 h3 => ⟨hi xs ls h1 h3, h2⟩) fun xs ls hx hl hp => by
    match xs, ls, hx, hl, hp with
    | [], [l0, l1], hx, hl, hp => rw [q13]; exact h l0 l1 hx hl hp
/-- loop.example/g01242/spec.l03Shown -/
def s11 : SSig := ⟨[.lst [.i8]], [.s], false⟩
noncomputable def c11 : Cfg := ⟨Try.prog, [], [], [], [], [], [], [], 0, []⟩
def iv11 : List Iv := []
def t11 : VC :=
 (.loop 1 [(.lit 0)] [(.lit [])] [⟨(-9223372036854775808), 9223372036854775807⟩] [(⟨0, 255⟩, 9223372036854775807)]
  (.ite (.lt (.var 0) (.len (.var 0)))
   (.need [(.b (.le (.lit 0) (.var 0))), (.b (.lt (.var 0) (.len (.var 0))))]
   (.need [(.b (.lt (.add (.lit 0) (.var 0)) (.len (.var 0))))]
   (.bind (.at (.var 0) (.add (.lit 0) (.var 0)))
   (.need [(.b (.le (.lit 0) (.wrap .i8 (.add (.var 1) (.lit 1))))), (.b (.lt (.wrap .i8 (.add (.var 1) (.lit 1))) (.len (.lit [45, 48, 43]))))]
   (.need [(.b (.le (.len (.cat (.var 1) (.one (.at (.lit [45, 48, 43]) (.wrap .i8 (.add (.var 1) (.lit 1))))))) (.lit 1099511627776)))]
   (.bind (.wrap .i64 (.add (.var 0) (.lit 1)))
   (.need [(.b (.le (.len (.cat (.var 1) (.one (.at (.lit [45, 48, 43]) (.wrap .i8 (.add (.var 1) (.lit 1))))))) (.lit 9223372036854775807)))]
   (.again 1 0 1 [⟨(-9223372036854775808), 9223372036854775807⟩] [(.var 2)] [(.cat (.var 1) (.one (.at (.lit [45, 48, 43]) (.wrap .i8 (.add (.var 1) (.lit 1))))))]))))))))
   (.need []
   (.fin (.l (.var 1) .nil)))))
theorem vc11 : vcSf ⟨c11, [(3, ⟨1, [4], [], [6, 7, 8, 9, 12, 13, 14, 15, 16, 17, 18, 19, 20, 3, 10, 11], [⟨(-9223372036854775808), 9223372036854775807⟩], [1], [1]⟩)]⟩ iv11 (parLvs s11.params) 250 Try.f11 s11 = t11 := by kernel_rfl
set_option linter.unusedVariables false in
def p11 (T : Tab) (I : Nat → Env → Env → Prop) (M : Nat → Env → Env → Nat) (pre : Nat → List Int → List (List Int) → Prop) (post : List Int → List (List Int) → Prop) (l0 : List Int) : Prop :=
 ((allHas [⟨(-9223372036854775808), 9223372036854775807⟩] [0] ∧ I 1 ⟨[], [l0]⟩ ⟨[0], [([] : List Int)]⟩) ∧ ∀ v0 : Int, ∀ l1 : List Int, allHas [⟨(-9223372036854775808), 9223372036854775807⟩] [v0] → allL [(⟨0, 255⟩, 9223372036854775807)] [l1] → I 1 ⟨[], [l0]⟩ ⟨[v0], [l1]⟩ →
  ((decide ((v0 : Int) < (List.length l0 : Int)) = true →
   ((decide ((0 : Int) ≤ v0) = true ∧ decide ((v0 : Int) < (List.length l0 : Int)) = true) ∧ ((decide ((0 : Int) ≤ v0) = true ∧ decide ((v0 : Int) < (List.length l0 : Int)) = true) →
   ((decide (((0 + v0) : Int) < (List.length l0 : Int)) = true) ∧ ((decide (((0 + v0) : Int) < (List.length l0 : Int)) = true) →
   ∀ v1 : Int, v1 = (List.getD l0 (Int.toNat (0 + v0)) 0) →
   ((decide ((0 : Int) ≤ (IntKind.wrap .i8 (v1 + 1))) = true ∧ decide (((IntKind.wrap .i8 (v1 + 1)) : Int) < (List.length ([45, 48, 43] : List Int) : Int)) = true) ∧ ((decide ((0 : Int) ≤ (IntKind.wrap .i8 (v1 + 1))) = true ∧ decide (((IntKind.wrap .i8 (v1 + 1)) : Int) < (List.length ([45, 48, 43] : List Int) : Int)) = true) →
   ((decide (((List.length (l1 ++ [(List.getD ([45, 48, 43] : List Int) (Int.toNat (IntKind.wrap .i8 (v1 + 1))) 0)]) : Int) : Int) ≤ 1099511627776) = true) ∧ ((decide (((List.length (l1 ++ [(List.getD ([45, 48, 43] : List Int) (Int.toNat (IntKind.wrap .i8 (v1 + 1))) 0)]) : Int) : Int) ≤ 1099511627776) = true) →
   ∀ v2 : Int, v2 = (IntKind.wrap .i64 (v0 + 1)) →
   ((decide (((List.length (l1 ++ [(List.getD ([45, 48, 43] : List Int) (Int.toNat (IntKind.wrap .i8 (v1 + 1))) 0)]) : Int) : Int) ≤ 9223372036854775807) = true) ∧ ((decide (((List.length (l1 ++ [(List.getD ([45, 48, 43] : List Int) (Int.toNat (IntKind.wrap .i8 (v1 + 1))) 0)]) : Int) : Int) ≤ 9223372036854775807) = true) →
   (allHas [⟨(-9223372036854775808), 9223372036854775807⟩] [v2] ∧ I 1 ⟨[], [l0]⟩ ⟨[v2], [(l1 ++ [(List.getD ([45, 48, 43] : List Int) (Int.toNat (IntKind.wrap .i8 (v1 + 1))) 0)])]⟩ ∧ M 1 ⟨[], [l0]⟩ ⟨[v2], [(l1 ++ [(List.getD ([45, 48, 43] : List Int) (Int.toNat (IntKind.wrap .i8 (v1 + 1))) 0)])]⟩ < M 1 ⟨[], [l0]⟩ ⟨[v0], [l1]⟩)))))))))))) ∧ (decide ((v0 : Int) < (List.length l0 : Int)) = false →
   ((True) ∧ ((True) →
   post [] [l1])))))
theorem q11 (T : Tab) (I : Nat → Env → Env → Prop) (M : Nat → Env → Env → Nat) (pre : Nat → List Int → List (List Int) → Prop) (post : List Int → List (List Int) → Prop) (l0 : List Int) : t11.plain T (presG pre I M) post ⟨[], [l0]⟩ = p11 T I M pre post l0 := by kernel_rfl
theorem k11 (T : Tab) (I : Nat → Env → Env → Prop) (M : Nat → Env → Env → Nat) (pre : Nat → List Int → List (List Int) → Prop) (hs : SubSig T c11.sigs) (ht : TotG pre c11.sigs) (hC : CtAll Try.prog T.fns (presQ pre) c11.pfs c11.pty c11.cls c11.sigs) (hk : CpAll Try.prog c11.cps) (hi : ∀ xs ls, allHas (parIvs s11.params) xs → pre 11 xs ls → allHas iv11 xs)
    (h : ∀ (l0 : List Int), allHas iv11 [] → allL (parLvs s11.params) [l0] → pre 11 [] [l0] → p11 T I M pre (fun ys zs => T.fns 11 [] [l0] = (ys, zs)) l0) : CTS Try.prog T.fns (presQ pre) 11 s11 :=
  T.cts (F := ⟨c11, [(3, ⟨1, [4], [], [6, 7, 8, 9, 12, 13, 14, 15, 16, 17, 18, 19, 20, 3, 10, 11], [⟨(-9223372036854775808), 9223372036854775807⟩], [1], [1]⟩)]⟩) (fuel := 250) vc11 Try.checked.mixed hs ht hC hk Try.func11 I M (fun xs ls h1 h2 h3 => ⟨hi xs ls h1 h3, h2⟩) fun xs ls hx hl hp => by
    match xs, ls, hx, hl, hp with
    | [], [l0], hx, hl, hp => rw [q11]; exact h l0 hx hl hp
end Go.Proofs.Ytfmbbioibdmhjaa.Sx
