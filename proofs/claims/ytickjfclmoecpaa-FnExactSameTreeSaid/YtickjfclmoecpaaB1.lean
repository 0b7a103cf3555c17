import Derived.Test.YtickjfclmoecpaaSxX
import Derived.Test.YtickjfclmoecpaaA1
import Derived.Test.YtickjfclmoecpaaChecked
import Derived.KernelRfl
namespace Go.Proofs.Ytickjfclmoecpaa.Sx
open Go Go.RowKit
/-- loop.example/g01242/laws.szForkS -/
def s42 : Sig := ⟨[.lst [.i8, .i8, .i16, .i16, .i16], .val false [.i .i64]], [(false, [.i .i64])], true⟩
noncomputable def c42 : Cfg := ⟨Try.prog, [], [], [], [], [], []⟩
def iv42 : List Iv := [⟨(-9223372036854775808), 9223372036854775807⟩]
def t42 : VC :=
 (.bind (.wrap .i64 (.sub (.var 0) (.div (.len (.var 0)) (.lit 5))))
 (.ite (.lt (.var 1) (.lit 0))
  (.fin (.e (.lit (-1)) .nil))
  (.fin (.e (.var 1) .nil))))
theorem vc42 : vcOfI ⟨c42, []⟩ iv42 (parLvs s42.params) 250 Try.f42 s42 = t42 := by kernel_rfl
set_option linter.unusedVariables false in
def p42 (T : Tab) (I : Nat → Env → Env → Prop) (M : Nat → Env → Env → Nat) (pre : Nat → List Int → List (List Int) → Prop) (post : List Int → List (List Int) → Prop) (v0 : Int) (l0 : List Int) : Prop :=
 ∀ v1 : Int, v1 = (IntKind.wrap .i64 (v0 - ((List.length l0 : Int) / 5))) →
 ((decide ((v1 : Int) < 0) = true →
  post [(-1)] []) ∧ (decide ((v1 : Int) < 0) = false →
  post [v1] []))
theorem q42 (T : Tab) (I : Nat → Env → Env → Prop) (M : Nat → Env → Env → Nat) (pre : Nat → List Int → List (List Int) → Prop) (post : List Int → List (List Int) → Prop) (v0 : Int) (l0 : List Int) : t42.plain T (presG pre I M) post ⟨[v0], [l0]⟩ = p42 T I M pre post v0 l0 := by kernel_rfl
theorem k42 (T : Tab) (I : Nat → Env → Env → Prop) (M : Nat → Env → Env → Nat) (pre : Nat → List Int → List (List Int) → Prop) (hs : SubSig T c42.sigs) (ht : TotG pre c42.sigs) (hg : T.sig 42 = some s42) (hC : CtAll Try.prog T.fns (presQ pre) c42.sigs) (hk : CpAll Try.prog c42.cps) (hi : ∀ xs ls, allHas (parIvs s42.params) xs → pre 42 xs ls → allHas iv42 xs)
    (h : ∀ (v0 : Int) (l0 : List Int), allHas iv42 [v0] → allL (parLvs s42.params) [l0] → pre 42 [v0] [l0] → p42 T I M pre (fun ys _ => ys = T.app 42 [v0] [l0]) v0 l0) : CT Try.prog T.fns (presQ pre) 42 s42 :=
  T.ctg (F := ⟨c42, []⟩) (fuel := 250) vc42 Try.checked.mixed hs ht hg hC hk Try.func42 I M (fun xs ls h1 h2 h3 => ⟨hi xs ls h1 h3, h2⟩) fun xs ls hx hl hp => by
    match xs, ls, hx, hl, hp with
    | [v0], [l0], hx, hl, hp => rw [q42]; exact h v0 l0 hx hl hp
/-- loop.example/g01242/laws.szTree -/
def s13 : Sig := ⟨[.lsts [[.i8, .i8, .i16, .i16, .i16]], .val false [.i .i64]], [(false, [.i .i64])], true⟩
noncomputable def c13 : Cfg := ⟨Try.prog, [(42, s42)], [], [], [], [], []⟩
def iv13 : List Iv := [⟨(-9223372036854775808), 9223372036854775807⟩]
def t13 : VC :=
 (.call 42 (.l (.var 0) (.e (.var 0) .nil)) 1
 (.ite (.lt (.var 1) (.lit 0))
  (.fin (.e (.lit (-1)) .nil))
  (.fin (.e (.var 1) .nil))))
theorem vc13 : vcOfI ⟨c13, []⟩ iv13 (parLvs s13.params) 250 Try.f13 s13 = t13 := by kernel_rfl
set_option linter.unusedVariables false in
def p13 (T : Tab) (I : Nat → Env → Env → Prop) (M : Nat → Env → Env → Nat) (pre : Nat → List Int → List (List Int) → Prop) (post : List Int → List (List Int) → Prop) (v0 : Int) (l0 : List Int) : Prop :=
 ∀ v1 : Int, [v1] = T.outL 42 1 [v0] [l0] →
 ((decide ((v1 : Int) < 0) = true →
  post [(-1)] []) ∧ (decide ((v1 : Int) < 0) = false →
  post [v1] []))
theorem q13 (T : Tab) (I : Nat → Env → Env → Prop) (M : Nat → Env → Env → Nat) (pre : Nat → List Int → List (List Int) → Prop) (post : List Int → List (List Int) → Prop) (v0 : Int) (l0 : List Int) : t13.plain T (presG pre I M) post ⟨[v0], [l0]⟩ = p13 T I M pre post v0 l0 := by kernel_rfl
theorem k13 (T : Tab) (I : Nat → Env → Env → Prop) (M : Nat → Env → Env → Nat) (pre : Nat → List Int → List (List Int) → Prop) (hs : SubSig T c13.sigs) (ht : TotG pre c13.sigs) (hg : T.sig 13 = some s13) (hC : CtAll Try.prog T.fns (presQ pre) c13.sigs) (hk : CpAll Try.prog c13.cps) (hi : ∀ xs ls, allHas (parIvs s13.params) xs → pre 13 xs ls → allHas iv13 xs)
    (h : ∀ (v0 : Int) (l0 : List Int), allHas iv13 [v0] → allL (parLvs s13.params) [l0] → pre 13 [v0] [l0] → p13 T I M pre (fun ys _ => ys = T.app 13 [v0] [l0]) v0 l0) : CT Try.prog T.fns (presQ pre) 13 s13 :=
  T.ctg (F := ⟨c13, []⟩) (fuel := 250) vc13 Try.checked.mixed hs ht hg hC hk Try.func13 I M (fun xs ls h1 h2 h3 => ⟨hi xs ls h1 h3, h2⟩) fun xs ls hx hl hp => by
    match xs, ls, hx, hl, hp with
    | [v0], [l0], hx, hl, hp => rw [q13]; exact h v0 l0 hx hl hp
/-- loop.example/g01242/laws.eqInt16A3 -/
def s83 : Sig := ⟨[.val true [.i .i16, .i .i16, .i .i16], .val true [.i .i16, .i .i16, .i .i16]], [(false, [.b])], true⟩
noncomputable def c83 : Cfg := ⟨Try.prog, [], [], [], [], [], []⟩
def iv83 : List Iv := [⟨(-32768), 32767⟩, ⟨(-32768), 32767⟩, ⟨(-32768), 32767⟩, ⟨(-32768), 32767⟩, ⟨(-32768), 32767⟩, ⟨(-32768), 32767⟩]
def t83 : VC :=
 (.ite (.not (.eq (.var 0) (.var 3)))
  (.fin (.e (.lit 0) .nil))
  (.ite (.not (.eq (.var 1) (.var 4)))
   (.fin (.e (.lit 0) .nil))
   (.ite (.not (.eq (.var 2) (.var 5)))
    (.fin (.e (.lit 0) .nil))
    (.fin (.e (.lit 1) .nil)))))
theorem vc83 : vcOfI ⟨c83, []⟩ iv83 (parLvs s83.params) 250 Try.f83 s83 = t83 := by kernel_rfl
set_option linter.unusedVariables false in
def p83 (T : Tab) (I : Nat → Env → Env → Prop) (M : Nat → Env → Env → Nat) (pre : Nat → List Int → List (List Int) → Prop) (post : List Int → List (List Int) → Prop) (v0 v1 v2 v3 v4 v5 : Int) : Prop :=
 (((!decide ((v0 : Int) = v3)) = true →
  post [0] []) ∧ ((!decide ((v0 : Int) = v3)) = false →
  (((!decide ((v1 : Int) = v4)) = true →
   post [0] []) ∧ ((!decide ((v1 : Int) = v4)) = false →
   (((!decide ((v2 : Int) = v5)) = true →
    post [0] []) ∧ ((!decide ((v2 : Int) = v5)) = false →
    post [1] []))))))
theorem q83 (T : Tab) (I : Nat → Env → Env → Prop) (M : Nat → Env → Env → Nat) (pre : Nat → List Int → List (List Int) → Prop) (post : List Int → List (List Int) → Prop) (v0 v1 v2 v3 v4 v5 : Int) : t83.plain T (presG pre I M) post ⟨[v0, v1, v2, v3, v4, v5], []⟩ = p83 T I M pre post v0 v1 v2 v3 v4 v5 := by kernel_rfl
theorem k83 (T : Tab) (I : Nat → Env → Env → Prop) (M : Nat → Env → Env → Nat) (pre : Nat → List Int → List (List Int) → Prop) (hs : SubSig T c83.sigs) (ht : TotG pre c83.sigs) (hg : T.sig 83 = some s83) (hC : CtAll Try.prog T.fns (presQ pre) c83.sigs) (hk : CpAll Try.prog c83.cps) (hi : ∀ xs ls, allHas (parIvs s83.params) xs → pre 83 xs ls → allHas iv83 xs)
    (h : ∀ (v0 v1 v2 v3 v4 v5 : Int), allHas iv83 [v0, v1, v2, v3, v4, v5] → allL (parLvs s83.params) [] → pre 83 [v0, v1, v2, v3, v4, v5] [] → p83 T I M pre (fun ys _ => ys = T.app 83 [v0, v1, v2, v3, v4, v5] []) v0 v1 v2 v3 v4 v5) : CT Try.prog T.fns (presQ pre) 83 s83 :=
  T.ctg (F := ⟨c83, []⟩) (fuel := 250) vc83 Try.checked.mixed hs ht hg hC hk Try.func83 I M (fun xs ls h1 h2 h3 => ⟨hi xs ls h1 h3, h2⟩) fun xs ls hx hl hp => by
    match xs, ls, hx, hl, hp with
    | [v0, v1, v2, v3, v4, v5], [], hx, hl, hp => rw [q83]; exact h v0 v1 v2 v3 v4 v5 hx hl hp
/-- loop.example/g01242/laws.eqFork -/
def s73 : Sig := ⟨[.val true [.i .i8, .i .i8, .i .i16, .i .i16, .i .i16], .val true [.i .i8, .i .i8, .i .i16, .i .i16, .i .i16]], [(false, [.b])], true⟩
noncomputable def c73 : Cfg := ⟨Try.prog, [(83, s83)], [], [], [], [], []⟩
def iv73 : List Iv := [⟨(-128), 127⟩, ⟨(-128), 127⟩, ⟨(-32768), 32767⟩, ⟨(-32768), 32767⟩, ⟨(-32768), 32767⟩, ⟨(-128), 127⟩, ⟨(-128), 127⟩, ⟨(-32768), 32767⟩, ⟨(-32768), 32767⟩, ⟨(-32768), 32767⟩]
def t73 : VC :=
 (.ite (.not (.eq (.var 0) (.var 5)))
  (.fin (.e (.lit 0) .nil))
  (.ite (.not (.eq (.var 1) (.var 6)))
   (.fin (.e (.lit 0) .nil))
   (.call 83 (.e (.var 2) (.e (.var 3) (.e (.var 4) (.e (.var 7) (.e (.var 8) (.e (.var 9) .nil)))))) 1
   (.ite (.not (.eq (.var 10) (.lit 1)))
    (.fin (.e (.lit 0) .nil))
    (.fin (.e (.lit 1) .nil))))))
theorem vc73 : vcOfI ⟨c73, []⟩ iv73 (parLvs s73.params) 250 Try.f73 s73 = t73 := by kernel_rfl
set_option linter.unusedVariables false in
def p73 (T : Tab) (I : Nat → Env → Env → Prop) (M : Nat → Env → Env → Nat) (pre : Nat → List Int → List (List Int) → Prop) (post : List Int → List (List Int) → Prop) (v0 v1 v2 v3 v4 v5 v6 v7 v8 v9 : Int) : Prop :=
 (((!decide ((v0 : Int) = v5)) = true →
  post [0] []) ∧ ((!decide ((v0 : Int) = v5)) = false →
  (((!decide ((v1 : Int) = v6)) = true →
   post [0] []) ∧ ((!decide ((v1 : Int) = v6)) = false →
   ∀ v10 : Int, [v10] = T.out 83 1 [v2, v3, v4, v7, v8, v9] →
   (((!decide ((v10 : Int) = 1)) = true →
    post [0] []) ∧ ((!decide ((v10 : Int) = 1)) = false →
    post [1] []))))))
theorem q73 (T : Tab) (I : Nat → Env → Env → Prop) (M : Nat → Env → Env → Nat) (pre : Nat → List Int → List (List Int) → Prop) (post : List Int → List (List Int) → Prop) (v0 v1 v2 v3 v4 v5 v6 v7 v8 v9 : Int) : t73.plain T (presG pre I M) post ⟨[v0, v1, v2, v3, v4, v5, v6, v7, v8, v9], []⟩ = p73 T I M pre post v0 v1 v2 v3 v4 v5 v6 v7 v8 v9 := by kernel_rfl
theorem k73 (T : Tab) (I : Nat → Env → Env → Prop) (M : Nat → Env → Env → Nat) (pre : Nat → List Int → List (List Int) → Prop) (hs : SubSig T c73.sigs) (ht : TotG pre c73.sigs) (hg : T.sig 73 = some s73) (hC : CtAll Try.prog T.fns (presQ pre) c73.sigs) (hk : CpAll Try.prog c73.cps) (hi : ∀ xs ls, allHas (parIvs s73.params) xs → pre 73 xs ls → allHas iv73 xs)
    (h : ∀ (v0 v1 v2 v3 v4 v5 v6 v7 v8 v9 : Int), allHas iv73 [v0, v1, v2, v3, v4, v5, v6, v7, v8, v9] → allL (parLvs s73.params) [] → pre 73 [v0, v1, v2, v3, v4, v5, v6, v7, v8, v9] [] → p73 T I M pre (fun ys _ => ys = T.app 73 [v0, v1, v2, v3, v4, v5, v6, v7, v8, v9] []) v0 v1 v2 v3 v4 v5 v6 v7 v8 v9) : CT Try.prog T.fns (presQ pre) 73 s73 :=
  T.ctg (F := ⟨c73, []⟩) (fuel := 250) vc73 Try.checked.mixed hs ht hg hC hk Try.func73 I M (fun xs ls h1 h2 h3 => ⟨hi xs ls h1 h3, h2⟩) fun xs ls hx hl hp => by
    match xs, ls, hx, hl, hp with
    | [v0, v1, v2, v3, v4, v5, v6, v7, v8, v9], [], hx, hl, hp => rw [q73]; exact h v0 v1 v2 v3 v4 v5 v6 v7 v8 v9 hx hl hp
/-- loop.example/g01242/laws.eqForkS -/
def s46 : Sig := ⟨[.lst [.i8, .i8, .i16, .i16, .i16], .lst [.i8, .i8, .i16, .i16, .i16]], [(false, [.b])], true⟩
noncomputable def c46 : Cfg := ⟨Try.prog, [(73, s73)], [], [], [], [], []⟩
def iv46 : List Iv := []
def t46 : VC :=
 (.ite (.not (.eq (.div (.len (.var 0)) (.lit 5)) (.div (.len (.var 1)) (.lit 5))))
  (.fin (.e (.lit 0) .nil))
  (.loop 1 [(.lit 0)] [] [⟨(-9223372036854775808), 9223372036854775807⟩] []
   (.ite (.lt (.var 0) (.div (.len (.var 0)) (.lit 5)))
    (.need [(.b (.le (.lit 0) (.var 0))), (.b (.lt (.var 0) (.div (.len (.var 0)) (.lit 5)))), (.b (.lt (.add (.mul (.add (.lit 0) (.var 0)) (.lit 5)) (.lit 4)) (.len (.var 0)))), (.b (.le (.lit 0) (.var 0))), (.b (.lt (.var 0) (.div (.len (.var 1)) (.lit 5)))), (.b (.lt (.add (.mul (.add (.lit 0) (.var 0)) (.lit 5)) (.lit 4)) (.len (.var 1))))]
    (.call 73 (.e (.wrap .i8 (.at (.var 0) (.mul (.add (.lit 0) (.var 0)) (.lit 5)))) (.e (.wrap .i8 (.at (.var 0) (.add (.mul (.add (.lit 0) (.var 0)) (.lit 5)) (.lit 1)))) (.e (.at (.var 0) (.add (.mul (.add (.lit 0) (.var 0)) (.lit 5)) (.lit 2))) (.e (.at (.var 0) (.add (.mul (.add (.lit 0) (.var 0)) (.lit 5)) (.lit 3))) (.e (.at (.var 0) (.add (.mul (.add (.lit 0) (.var 0)) (.lit 5)) (.lit 4))) (.e (.wrap .i8 (.at (.var 1) (.mul (.add (.lit 0) (.var 0)) (.lit 5)))) (.e (.wrap .i8 (.at (.var 1) (.add (.mul (.add (.lit 0) (.var 0)) (.lit 5)) (.lit 1)))) (.e (.at (.var 1) (.add (.mul (.add (.lit 0) (.var 0)) (.lit 5)) (.lit 2))) (.e (.at (.var 1) (.add (.mul (.add (.lit 0) (.var 0)) (.lit 5)) (.lit 3))) (.e (.at (.var 1) (.add (.mul (.add (.lit 0) (.var 0)) (.lit 5)) (.lit 4))) .nil)))))))))) 1
    (.bind (.wrap .i8 (.at (.var 0) (.mul (.add (.lit 0) (.var 0)) (.lit 5))))
    (.bind (.wrap .i8 (.at (.var 0) (.add (.mul (.add (.lit 0) (.var 0)) (.lit 5)) (.lit 1))))
    (.bind (.at (.var 0) (.add (.mul (.add (.lit 0) (.var 0)) (.lit 5)) (.lit 2)))
    (.bind (.at (.var 0) (.add (.mul (.add (.lit 0) (.var 0)) (.lit 5)) (.lit 3)))
    (.bind (.at (.var 0) (.add (.mul (.add (.lit 0) (.var 0)) (.lit 5)) (.lit 4)))
    (.bind (.wrap .i8 (.at (.var 1) (.mul (.add (.lit 0) (.var 0)) (.lit 5))))
    (.bind (.wrap .i8 (.at (.var 1) (.add (.mul (.add (.lit 0) (.var 0)) (.lit 5)) (.lit 1))))
    (.bind (.at (.var 1) (.add (.mul (.add (.lit 0) (.var 0)) (.lit 5)) (.lit 2)))
    (.bind (.at (.var 1) (.add (.mul (.add (.lit 0) (.var 0)) (.lit 5)) (.lit 3)))
    (.bind (.at (.var 1) (.add (.mul (.add (.lit 0) (.var 0)) (.lit 5)) (.lit 4)))
    (.ite (.not (.eq (.var 1) (.lit 1)))
     (.fin (.e (.lit 0) .nil))
     (.bind (.wrap .i64 (.add (.var 0) (.lit 1)))
     (.again 1 0 2 [⟨(-9223372036854775808), 9223372036854775807⟩] [(.var 12)] [])))))))))))))))
    (.fin (.e (.lit 1) .nil)))))
theorem vc46 : vcOfI ⟨c46, [(4, ⟨1, [5], [], [11, 12, 13, 14, 17, 18, 19, 20, 21, 22, 23, 24, 25, 26, 4, 15, 16], [⟨(-9223372036854775808), 9223372036854775807⟩], [], []⟩)]⟩ iv46 (parLvs s46.params) 250 Try.f46 s46 = t46 := by kernel_rfl
set_option linter.unusedVariables false in
def p46 (T : Tab) (I : Nat → Env → Env → Prop) (M : Nat → Env → Env → Nat) (pre : Nat → List Int → List (List Int) → Prop) (post : List Int → List (List Int) → Prop) (l0 l1 : List Int) : Prop :=
 (((!decide ((((List.length l0 : Int) / 5) : Int) = ((List.length l1 : Int) / 5))) = true →
  post [0] []) ∧ ((!decide ((((List.length l0 : Int) / 5) : Int) = ((List.length l1 : Int) / 5))) = false →
  ((allHas [⟨(-9223372036854775808), 9223372036854775807⟩] [0] ∧ I 1 ⟨[], [l0, l1]⟩ ⟨[0], []⟩) ∧ ∀ v0 : Int, allHas [⟨(-9223372036854775808), 9223372036854775807⟩] [v0] → I 1 ⟨[], [l0, l1]⟩ ⟨[v0], []⟩ →
   ((decide ((v0 : Int) < ((List.length l0 : Int) / 5)) = true →
    ((decide ((0 : Int) ≤ v0) = true ∧ decide ((v0 : Int) < ((List.length l0 : Int) / 5)) = true ∧ decide (((((0 + v0) * 5) + 4) : Int) < (List.length l0 : Int)) = true ∧ decide ((0 : Int) ≤ v0) = true ∧ decide ((v0 : Int) < ((List.length l1 : Int) / 5)) = true ∧ decide (((((0 + v0) * 5) + 4) : Int) < (List.length l1 : Int)) = true) ∧ ((decide ((0 : Int) ≤ v0) = true ∧ decide ((v0 : Int) < ((List.length l0 : Int) / 5)) = true ∧ decide (((((0 + v0) * 5) + 4) : Int) < (List.length l0 : Int)) = true ∧ decide ((0 : Int) ≤ v0) = true ∧ decide ((v0 : Int) < ((List.length l1 : Int) / 5)) = true ∧ decide (((((0 + v0) * 5) + 4) : Int) < (List.length l1 : Int)) = true) →
    ∀ v1 : Int, [v1] = T.out 73 1 [(IntKind.wrap .i8 (List.getD l0 (Int.toNat ((0 + v0) * 5)) 0)), (IntKind.wrap .i8 (List.getD l0 (Int.toNat (((0 + v0) * 5) + 1)) 0)), (List.getD l0 (Int.toNat (((0 + v0) * 5) + 2)) 0), (List.getD l0 (Int.toNat (((0 + v0) * 5) + 3)) 0), (List.getD l0 (Int.toNat (((0 + v0) * 5) + 4)) 0), (IntKind.wrap .i8 (List.getD l1 (Int.toNat ((0 + v0) * 5)) 0)), (IntKind.wrap .i8 (List.getD l1 (Int.toNat (((0 + v0) * 5) + 1)) 0)), (List.getD l1 (Int.toNat (((0 + v0) * 5) + 2)) 0), (List.getD l1 (Int.toNat (((0 + v0) * 5) + 3)) 0), (List.getD l1 (Int.toNat (((0 + v0) * 5) + 4)) 0)] →
    ∀ v2 : Int, v2 = (IntKind.wrap .i8 (List.getD l0 (Int.toNat ((0 + v0) * 5)) 0)) →
    ∀ v3 : Int, v3 = (IntKind.wrap .i8 (List.getD l0 (Int.toNat (((0 + v0) * 5) + 1)) 0)) →
    ∀ v4 : Int, v4 = (List.getD l0 (Int.toNat (((0 + v0) * 5) + 2)) 0) →
    ∀ v5 : Int, v5 = (List.getD l0 (Int.toNat (((0 + v0) * 5) + 3)) 0) →
    ∀ v6 : Int, v6 = (List.getD l0 (Int.toNat (((0 + v0) * 5) + 4)) 0) →
    ∀ v7 : Int, v7 = (IntKind.wrap .i8 (List.getD l1 (Int.toNat ((0 + v0) * 5)) 0)) →
    ∀ v8 : Int, v8 = (IntKind.wrap .i8 (List.getD l1 (Int.toNat (((0 + v0) * 5) + 1)) 0)) →
    ∀ v9 : Int, v9 = (List.getD l1 (Int.toNat (((0 + v0) * 5) + 2)) 0) →
    ∀ v10 : Int, v10 = (List.getD l1 (Int.toNat (((0 + v0) * 5) + 3)) 0) →
    ∀ v11 : Int, v11 = (List.getD l1 (Int.toNat (((0 + v0) * 5) + 4)) 0) →
    (((!decide ((v1 : Int) = 1)) = true →
     post [0] []) ∧ ((!decide ((v1 : Int) = 1)) = false →
     ∀ v12 : Int, v12 = (IntKind.wrap .i64 (v0 + 1)) →
     (allHas [⟨(-9223372036854775808), 9223372036854775807⟩] [v12] ∧ I 1 ⟨[], [l0, l1]⟩ ⟨[v12], []⟩ ∧ M 1 ⟨[], [l0, l1]⟩ ⟨[v12], []⟩ < M 1 ⟨[], [l0, l1]⟩ ⟨[v0], []⟩)))))) ∧ (decide ((v0 : Int) < ((List.length l0 : Int) / 5)) = false →
    post [1] [])))))
theorem q46 (T : Tab) (I : Nat → Env → Env → Prop) (M : Nat → Env → Env → Nat) (pre : Nat → List Int → List (List Int) → Prop) (post : List Int → List (List Int) → Prop) (l0 l1 : List Int) : t46.plain T (presG pre I M) post ⟨[], [l0, l1]⟩ = p46 T I M pre post l0 l1 := by kernel_rfl
theorem k46 (T : Tab) (I : Nat → Env → Env → Prop) (M : Nat → Env → Env → Nat) (pre : Nat → List Int → List (List Int) → Prop) (hs : SubSig T c46.sigs) (ht : TotG pre c46.sigs) (hg : T.sig 46 = some s46) (hC : CtAll Try.prog T.fns (presQ pre) c46.sigs) (hk : CpAll Try.prog c46.cps) (hi : ∀ xs ls, allHas (parIvs s46.params) xs → pre 46 xs ls → allHas iv46 xs)
    (h : ∀ (l0 l1 : List Int), allHas iv46 [] → allL (parLvs s46.params) [l0, l1] → pre 46 [] [l0, l1] → p46 T I M pre (fun ys _ => ys = T.app 46 [] [l0, l1]) l0 l1) : CT Try.prog T.fns (presQ pre) 46 s46 :=
  T.ctg (F := ⟨c46, [(4, ⟨1, [5], [], [11, 12, 13, 14, 17, 18, 19, 20, 21, 22, 23, 24, 25, 26, 4, 15, 16], [⟨(-9223372036854775808), 9223372036854775807⟩], [], []⟩)]⟩) (fuel := 250) vc46 Try.checked.mixed hs ht hg hC hk Try.func46 I M (fun xs ls h1 h2 h3 => ⟨hi xs ls h1 h3, h2⟩) fun xs ls hx hl hp => by
    match xs, ls, hx, hl, hp with
    | [], [l0, l1], hx, hl, hp => rw [q46]; exact h l0 l1 hx hl hp
/-- loop.example/g01242/laws.eqTree -/
def s17 : Sig := ⟨[.lsts [[.i8, .i8, .i16, .i16, .i16]], .lsts [[.i8, .i8, .i16, .i16, .i16]]], [(false, [.b])], true⟩
noncomputable def c17 : Cfg := ⟨Try.prog, [(46, s46)], [], [], [], [], []⟩
def iv17 : List Iv := []
def t17 : VC :=
 (.call 46 (.l (.var 0) (.l (.var 1) .nil)) 1
 (.ite (.not (.eq (.var 0) (.lit 1)))
  (.fin (.e (.lit 0) .nil))
  (.fin (.e (.lit 1) .nil))))
theorem vc17 : vcOfI ⟨c17, []⟩ iv17 (parLvs s17.params) 250 Try.f17 s17 = t17 := by kernel_rfl
set_option linter.unusedVariables false in
def p17 (T : Tab) (I : Nat → Env → Env → Prop) (M : Nat → Env → Env → Nat) (pre : Nat → List Int → List (List Int) → Prop) (post : List Int → List (List Int) → Prop) (l0 l1 : List Int) : Prop :=
 ∀ v0 : Int, [v0] = T.outL 46 1 [] [l0, l1] →
 (((!decide ((v0 : Int) = 1)) = true →
  post [0] []) ∧ ((!decide ((v0 : Int) = 1)) = false →
  post [1] []))
theorem q17 (T : Tab) (I : Nat → Env → Env → Prop) (M : Nat → Env → Env → Nat) (pre : Nat → List Int → List (List Int) → Prop) (post : List Int → List (List Int) → Prop) (l0 l1 : List Int) : t17.plain T (presG pre I M) post ⟨[], [l0, l1]⟩ = p17 T I M pre post l0 l1 := by kernel_rfl
theorem k17 (T : Tab) (I : Nat → Env → Env → Prop) (M : Nat → Env → Env → Nat) (pre : Nat → List Int → List (List Int) → Prop) (hs : SubSig T c17.sigs) (ht : TotG pre c17.sigs) (hg : T.sig 17 = some s17) (hC : CtAll Try.prog T.fns (presQ pre) c17.sigs) (hk : CpAll Try.prog c17.cps) (hi : ∀ xs ls, allHas (parIvs s17.params) xs → pre 17 xs ls → allHas iv17 xs)
    (h : ∀ (l0 l1 : List Int), allHas iv17 [] → allL (parLvs s17.params) [l0, l1] → pre 17 [] [l0, l1] → p17 T I M pre (fun ys _ => ys = T.app 17 [] [l0, l1]) l0 l1) : CT Try.prog T.fns (presQ pre) 17 s17 :=
  T.ctg (F := ⟨c17, []⟩) (fuel := 250) vc17 Try.checked.mixed hs ht hg hC hk Try.func17 I M (fun xs ls h1 h2 h3 => ⟨hi xs ls h1 h3, h2⟩) fun xs ls hx hl hp => by
    match xs, ls, hx, hl, hp with
    | [], [l0, l1], hx, hl, hp => rw [q17]; exact h l0 l1 hx hl hp
/-- slices.Equal[[]loop.example/g01242/impl.Fork,loop.example/g01242/impl.Fork] -/
def s48 : Sig := ⟨[.lst [.i8, .i8, .i16, .i16, .i16], .lst [.i8, .i8, .i16, .i16, .i16]], [(false, [.b])], true⟩
noncomputable def c48 : Cfg := ⟨Try.prog, [], [], [], [], [], []⟩
def iv48 : List Iv := []
def t48 : VC :=
 (.ite (.not (.eq (.div (.len (.var 0)) (.lit 5)) (.div (.len (.var 1)) (.lit 5))))
  (.fin (.e (.lit 0) .nil))
  (.loop 1 [(.lit 0)] [] [⟨(-9223372036854775808), 9223372036854775807⟩] []
   (.ite (.lt (.var 0) (.div (.len (.var 0)) (.lit 5)))
    (.need [(.b (.le (.lit 0) (.var 0))), (.b (.lt (.var 0) (.div (.len (.var 0)) (.lit 5)))), (.b (.lt (.add (.mul (.add (.lit 0) (.var 0)) (.lit 5)) (.lit 4)) (.len (.var 0)))), (.b (.le (.lit 0) (.var 0))), (.b (.lt (.var 0) (.div (.len (.var 1)) (.lit 5)))), (.b (.lt (.add (.mul (.add (.lit 0) (.var 0)) (.lit 5)) (.lit 4)) (.len (.var 1))))]
    (.bind (.wrap .i8 (.at (.var 0) (.mul (.add (.lit 0) (.var 0)) (.lit 5))))
    (.bind (.wrap .i8 (.at (.var 0) (.add (.mul (.add (.lit 0) (.var 0)) (.lit 5)) (.lit 1))))
    (.bind (.at (.var 0) (.add (.mul (.add (.lit 0) (.var 0)) (.lit 5)) (.lit 2)))
    (.bind (.at (.var 0) (.add (.mul (.add (.lit 0) (.var 0)) (.lit 5)) (.lit 3)))
    (.bind (.at (.var 0) (.add (.mul (.add (.lit 0) (.var 0)) (.lit 5)) (.lit 4)))
    (.bind (.wrap .i8 (.at (.var 1) (.mul (.add (.lit 0) (.var 0)) (.lit 5))))
    (.bind (.wrap .i8 (.at (.var 1) (.add (.mul (.add (.lit 0) (.var 0)) (.lit 5)) (.lit 1))))
    (.bind (.at (.var 1) (.add (.mul (.add (.lit 0) (.var 0)) (.lit 5)) (.lit 2)))
    (.bind (.at (.var 1) (.add (.mul (.add (.lit 0) (.var 0)) (.lit 5)) (.lit 3)))
    (.bind (.at (.var 1) (.add (.mul (.add (.lit 0) (.var 0)) (.lit 5)) (.lit 4)))
    (.ite (.not (.and (.eq (.wrap .i8 (.at (.var 0) (.mul (.add (.lit 0) (.var 0)) (.lit 5)))) (.wrap .i8 (.at (.var 1) (.mul (.add (.lit 0) (.var 0)) (.lit 5))))) (.and (.eq (.wrap .i8 (.at (.var 0) (.add (.mul (.add (.lit 0) (.var 0)) (.lit 5)) (.lit 1)))) (.wrap .i8 (.at (.var 1) (.add (.mul (.add (.lit 0) (.var 0)) (.lit 5)) (.lit 1))))) (.and (.eq (.at (.var 0) (.add (.mul (.add (.lit 0) (.var 0)) (.lit 5)) (.lit 2))) (.at (.var 1) (.add (.mul (.add (.lit 0) (.var 0)) (.lit 5)) (.lit 2)))) (.and (.eq (.at (.var 0) (.add (.mul (.add (.lit 0) (.var 0)) (.lit 5)) (.lit 3))) (.at (.var 1) (.add (.mul (.add (.lit 0) (.var 0)) (.lit 5)) (.lit 3)))) (.eq (.at (.var 0) (.add (.mul (.add (.lit 0) (.var 0)) (.lit 5)) (.lit 4))) (.at (.var 1) (.add (.mul (.add (.lit 0) (.var 0)) (.lit 5)) (.lit 4)))))))))
     (.fin (.e (.lit 0) .nil))
     (.again 1 0 2 [⟨(-9223372036854775808), 9223372036854775807⟩] [(.wrap .i64 (.add (.var 0) (.lit 1)))] [])))))))))))))
    (.fin (.e (.lit 1) .nil)))))
theorem vc48 : vcOfI ⟨c48, [(4, ⟨1, [13], [], [14, 15, 5, 16, 17, 18, 19, 20, 21, 22, 23, 24, 4, 25], [⟨(-9223372036854775808), 9223372036854775807⟩], [], []⟩)]⟩ iv48 (parLvs s48.params) 250 Try.f48 s48 = t48 := by kernel_rfl
set_option linter.unusedVariables false in
def p48 (T : Tab) (I : Nat → Env → Env → Prop) (M : Nat → Env → Env → Nat) (pre : Nat → List Int → List (List Int) → Prop) (post : List Int → List (List Int) → Prop) (l0 l1 : List Int) : Prop :=
 (((!decide ((((List.length l0 : Int) / 5) : Int) = ((List.length l1 : Int) / 5))) = true →
  post [0] []) ∧ ((!decide ((((List.length l0 : Int) / 5) : Int) = ((List.length l1 : Int) / 5))) = false →
  ((allHas [⟨(-9223372036854775808), 9223372036854775807⟩] [0] ∧ I 1 ⟨[], [l0, l1]⟩ ⟨[0], []⟩) ∧ ∀ v0 : Int, allHas [⟨(-9223372036854775808), 9223372036854775807⟩] [v0] → I 1 ⟨[], [l0, l1]⟩ ⟨[v0], []⟩ →
   ((decide ((v0 : Int) < ((List.length l0 : Int) / 5)) = true →
    ((decide ((0 : Int) ≤ v0) = true ∧ decide ((v0 : Int) < ((List.length l0 : Int) / 5)) = true ∧ decide (((((0 + v0) * 5) + 4) : Int) < (List.length l0 : Int)) = true ∧ decide ((0 : Int) ≤ v0) = true ∧ decide ((v0 : Int) < ((List.length l1 : Int) / 5)) = true ∧ decide (((((0 + v0) * 5) + 4) : Int) < (List.length l1 : Int)) = true) ∧ ((decide ((0 : Int) ≤ v0) = true ∧ decide ((v0 : Int) < ((List.length l0 : Int) / 5)) = true ∧ decide (((((0 + v0) * 5) + 4) : Int) < (List.length l0 : Int)) = true ∧ decide ((0 : Int) ≤ v0) = true ∧ decide ((v0 : Int) < ((List.length l1 : Int) / 5)) = true ∧ decide (((((0 + v0) * 5) + 4) : Int) < (List.length l1 : Int)) = true) →
    ∀ v1 : Int, v1 = (IntKind.wrap .i8 (List.getD l0 (Int.toNat ((0 + v0) * 5)) 0)) →
    ∀ v2 : Int, v2 = (IntKind.wrap .i8 (List.getD l0 (Int.toNat (((0 + v0) * 5) + 1)) 0)) →
    ∀ v3 : Int, v3 = (List.getD l0 (Int.toNat (((0 + v0) * 5) + 2)) 0) →
    ∀ v4 : Int, v4 = (List.getD l0 (Int.toNat (((0 + v0) * 5) + 3)) 0) →
    ∀ v5 : Int, v5 = (List.getD l0 (Int.toNat (((0 + v0) * 5) + 4)) 0) →
    ∀ v6 : Int, v6 = (IntKind.wrap .i8 (List.getD l1 (Int.toNat ((0 + v0) * 5)) 0)) →
    ∀ v7 : Int, v7 = (IntKind.wrap .i8 (List.getD l1 (Int.toNat (((0 + v0) * 5) + 1)) 0)) →
    ∀ v8 : Int, v8 = (List.getD l1 (Int.toNat (((0 + v0) * 5) + 2)) 0) →
    ∀ v9 : Int, v9 = (List.getD l1 (Int.toNat (((0 + v0) * 5) + 3)) 0) →
    ∀ v10 : Int, v10 = (List.getD l1 (Int.toNat (((0 + v0) * 5) + 4)) 0) →
    (((!(decide (((IntKind.wrap .i8 (List.getD l0 (Int.toNat ((0 + v0) * 5)) 0)) : Int) = (IntKind.wrap .i8 (List.getD l1 (Int.toNat ((0 + v0) * 5)) 0))) && (decide (((IntKind.wrap .i8 (List.getD l0 (Int.toNat (((0 + v0) * 5) + 1)) 0)) : Int) = (IntKind.wrap .i8 (List.getD l1 (Int.toNat (((0 + v0) * 5) + 1)) 0))) && (decide (((List.getD l0 (Int.toNat (((0 + v0) * 5) + 2)) 0) : Int) = (List.getD l1 (Int.toNat (((0 + v0) * 5) + 2)) 0)) && (decide (((List.getD l0 (Int.toNat (((0 + v0) * 5) + 3)) 0) : Int) = (List.getD l1 (Int.toNat (((0 + v0) * 5) + 3)) 0)) && decide (((List.getD l0 (Int.toNat (((0 + v0) * 5) + 4)) 0) : Int) = (List.getD l1 (Int.toNat (((0 + v0) * 5) + 4)) 0))))))) = true →
     post [0] []) ∧ ((!(decide (((IntKind.wrap .i8 (List.getD l0 (Int.toNat ((0 + v0) * 5)) 0)) : Int) = (IntKind.wrap .i8 (List.getD l1 (Int.toNat ((0 + v0) * 5)) 0))) && (decide (((IntKind.wrap .i8 (List.getD l0 (Int.toNat (((0 + v0) * 5) + 1)) 0)) : Int) = (IntKind.wrap .i8 (List.getD l1 (Int.toNat (((0 + v0) * 5) + 1)) 0))) && (decide (((List.getD l0 (Int.toNat (((0 + v0) * 5) + 2)) 0) : Int) = (List.getD l1 (Int.toNat (((0 + v0) * 5) + 2)) 0)) && (decide (((List.getD l0 (Int.toNat (((0 + v0) * 5) + 3)) 0) : Int) = (List.getD l1 (Int.toNat (((0 + v0) * 5) + 3)) 0)) && decide (((List.getD l0 (Int.toNat (((0 + v0) * 5) + 4)) 0) : Int) = (List.getD l1 (Int.toNat (((0 + v0) * 5) + 4)) 0))))))) = false →
     (allHas [⟨(-9223372036854775808), 9223372036854775807⟩] [(IntKind.wrap .i64 (v0 + 1))] ∧ I 1 ⟨[], [l0, l1]⟩ ⟨[(IntKind.wrap .i64 (v0 + 1))], []⟩ ∧ M 1 ⟨[], [l0, l1]⟩ ⟨[(IntKind.wrap .i64 (v0 + 1))], []⟩ < M 1 ⟨[], [l0, l1]⟩ ⟨[v0], []⟩)))))) ∧ (decide ((v0 : Int) < ((List.length l0 : Int) / 5)) = false →
    post [1] [])))))
theorem q48 (T : Tab) (I : Nat → Env → Env → Prop) (M : Nat → Env → Env → Nat) (pre : Nat → List Int → List (List Int) → Prop) (post : List Int → List (List Int) → Prop) (l0 l1 : List Int) : t48.plain T (presG pre I M) post ⟨[], [l0, l1]⟩ = p48 T I M pre post l0 l1 := by kernel_rfl
theorem k48 (T : Tab) (I : Nat → Env → Env → Prop) (M : Nat → Env → Env → Nat) (pre : Nat → List Int → List (List Int) → Prop) (hs : SubSig T c48.sigs) (ht : TotG pre c48.sigs) (hg : T.sig 48 = some s48) (hC : CtAll Try.prog T.fns (presQ pre) c48.sigs) (hk : CpAll Try.prog c48.cps) (hi : ∀ xs ls, allHas (parIvs s48.params) xs → pre 48 xs ls → allHas iv48 xs)
    (h : ∀ (l0 l1 : List Int), allHas iv48 [] → allL (parLvs s48.params) [l0, l1] → pre 48 [] [l0, l1] → p48 T I M pre (fun ys _ => ys = T.app 48 [] [l0, l1]) l0 l1) : CT Try.prog T.fns (presQ pre) 48 s48 :=
  T.ctg (F := ⟨c48, [(4, ⟨1, [13], [], [14, 15, 5, 16, 17, 18, 19, 20, 21, 22, 23, 24, 4, 25], [⟨(-9223372036854775808), 9223372036854775807⟩], [], []⟩)]⟩) (fuel := 250) vc48 Try.checked.mixed hs ht hg hC hk Try.func48 I M (fun xs ls h1 h2 h3 => ⟨hi xs ls h1 h3, h2⟩) fun xs ls hx hl hp => by
    match xs, ls, hx, hl, hp with
    | [], [l0, l1], hx, hl, hp => rw [q48]; exact h l0 l1 hx hl hp
/-- loop.example/g01242/spec.l06Same -/
def s47 : Sig := ⟨[.plsts [[.i8, .i8, .i16, .i16, .i16]], .plsts [[.i8, .i8, .i16, .i16, .i16]]], [(false, [.b])], true⟩
noncomputable def c47 : Cfg := ⟨Try.prog, [], [], [], [], [], []⟩
def iv47 : List Iv := []
def t47 : VC :=
 (.ite (.not (.eq (.div (.len (.var 0)) (.lit 5)) (.div (.len (.var 1)) (.lit 5))))
  (.fin (.e (.lit 0) .nil))
  (.loop 1 [(.lit 0)] [] [⟨(-9223372036854775808), 9223372036854775807⟩] []
   (.ite (.lt (.var 0) (.div (.len (.var 0)) (.lit 5)))
    (.need [(.b (.le (.lit 0) (.var 0))), (.b (.lt (.var 0) (.div (.len (.var 0)) (.lit 5)))), (.b (.lt (.add (.mul (.add (.lit 0) (.var 0)) (.lit 5)) (.lit 4)) (.len (.var 0)))), (.b (.le (.lit 0) (.var 0))), (.b (.lt (.var 0) (.div (.len (.var 1)) (.lit 5)))), (.b (.lt (.add (.mul (.add (.lit 0) (.var 0)) (.lit 5)) (.lit 4)) (.len (.var 1))))]
    (.bind (.wrap .i8 (.at (.var 0) (.mul (.add (.lit 0) (.var 0)) (.lit 5))))
    (.bind (.wrap .i8 (.at (.var 0) (.add (.mul (.add (.lit 0) (.var 0)) (.lit 5)) (.lit 1))))
    (.bind (.at (.var 0) (.add (.mul (.add (.lit 0) (.var 0)) (.lit 5)) (.lit 2)))
    (.bind (.at (.var 0) (.add (.mul (.add (.lit 0) (.var 0)) (.lit 5)) (.lit 3)))
    (.bind (.at (.var 0) (.add (.mul (.add (.lit 0) (.var 0)) (.lit 5)) (.lit 4)))
    (.bind (.wrap .i8 (.at (.var 1) (.mul (.add (.lit 0) (.var 0)) (.lit 5))))
    (.bind (.wrap .i8 (.at (.var 1) (.add (.mul (.add (.lit 0) (.var 0)) (.lit 5)) (.lit 1))))
    (.bind (.at (.var 1) (.add (.mul (.add (.lit 0) (.var 0)) (.lit 5)) (.lit 2)))
    (.bind (.at (.var 1) (.add (.mul (.add (.lit 0) (.var 0)) (.lit 5)) (.lit 3)))
    (.bind (.at (.var 1) (.add (.mul (.add (.lit 0) (.var 0)) (.lit 5)) (.lit 4)))
    (.ite (.not (.and (.eq (.wrap .i8 (.at (.var 0) (.mul (.add (.lit 0) (.var 0)) (.lit 5)))) (.wrap .i8 (.at (.var 1) (.mul (.add (.lit 0) (.var 0)) (.lit 5))))) (.and (.eq (.wrap .i8 (.at (.var 0) (.add (.mul (.add (.lit 0) (.var 0)) (.lit 5)) (.lit 1)))) (.wrap .i8 (.at (.var 1) (.add (.mul (.add (.lit 0) (.var 0)) (.lit 5)) (.lit 1))))) (.and (.eq (.at (.var 0) (.add (.mul (.add (.lit 0) (.var 0)) (.lit 5)) (.lit 2))) (.at (.var 1) (.add (.mul (.add (.lit 0) (.var 0)) (.lit 5)) (.lit 2)))) (.and (.eq (.at (.var 0) (.add (.mul (.add (.lit 0) (.var 0)) (.lit 5)) (.lit 3))) (.at (.var 1) (.add (.mul (.add (.lit 0) (.var 0)) (.lit 5)) (.lit 3)))) (.eq (.at (.var 0) (.add (.mul (.add (.lit 0) (.var 0)) (.lit 5)) (.lit 4))) (.at (.var 1) (.add (.mul (.add (.lit 0) (.var 0)) (.lit 5)) (.lit 4)))))))))
     (.fin (.e (.lit 0) .nil))
     (.bind (.wrap .i64 (.add (.var 0) (.lit 1)))
     (.again 1 0 2 [⟨(-9223372036854775808), 9223372036854775807⟩] [(.var 11)] []))))))))))))))
    (.fin (.e (.lit 1) .nil)))))
theorem vc47 : vcOfI ⟨c47, [(4, ⟨1, [5], [], [17, 18, 19, 20, 21, 22, 23, 26, 27, 28, 29, 30, 31, 32, 33, 34, 35, 36, 37, 38, 39, 40, 4, 24, 25], [⟨(-9223372036854775808), 9223372036854775807⟩], [], []⟩)]⟩ iv47 (parLvs s47.params) 250 Try.f47 s47 = t47 := by kernel_rfl
set_option linter.unusedVariables false in
def p47 (T : Tab) (I : Nat → Env → Env → Prop) (M : Nat → Env → Env → Nat) (pre : Nat → List Int → List (List Int) → Prop) (post : List Int → List (List Int) → Prop) (l0 l1 : List Int) : Prop :=
 (((!decide ((((List.length l0 : Int) / 5) : Int) = ((List.length l1 : Int) / 5))) = true →
  post [0] []) ∧ ((!decide ((((List.length l0 : Int) / 5) : Int) = ((List.length l1 : Int) / 5))) = false →
  ((allHas [⟨(-9223372036854775808), 9223372036854775807⟩] [0] ∧ I 1 ⟨[], [l0, l1]⟩ ⟨[0], []⟩) ∧ ∀ v0 : Int, allHas [⟨(-9223372036854775808), 9223372036854775807⟩] [v0] → I 1 ⟨[], [l0, l1]⟩ ⟨[v0], []⟩ →
   ((decide ((v0 : Int) < ((List.length l0 : Int) / 5)) = true →
    ((decide ((0 : Int) ≤ v0) = true ∧ decide ((v0 : Int) < ((List.length l0 : Int) / 5)) = true ∧ decide (((((0 + v0) * 5) + 4) : Int) < (List.length l0 : Int)) = true ∧ decide ((0 : Int) ≤ v0) = true ∧ decide ((v0 : Int) < ((List.length l1 : Int) / 5)) = true ∧ decide (((((0 + v0) * 5) + 4) : Int) < (List.length l1 : Int)) = true) ∧ ((decide ((0 : Int) ≤ v0) = true ∧ decide ((v0 : Int) < ((List.length l0 : Int) / 5)) = true ∧ decide (((((0 + v0) * 5) + 4) : Int) < (List.length l0 : Int)) = true ∧ decide ((0 : Int) ≤ v0) = true ∧ decide ((v0 : Int) < ((List.length l1 : Int) / 5)) = true ∧ decide (((((0 + v0) * 5) + 4) : Int) < (List.length l1 : Int)) = true) →
    ∀ v1 : Int, v1 = (IntKind.wrap .i8 (List.getD l0 (Int.toNat ((0 + v0) * 5)) 0)) →
    ∀ v2 : Int, v2 = (IntKind.wrap .i8 (List.getD l0 (Int.toNat (((0 + v0) * 5) + 1)) 0)) →
    ∀ v3 : Int, v3 = (List.getD l0 (Int.toNat (((0 + v0) * 5) + 2)) 0) →
    ∀ v4 : Int, v4 = (List.getD l0 (Int.toNat (((0 + v0) * 5) + 3)) 0) →
    ∀ v5 : Int, v5 = (List.getD l0 (Int.toNat (((0 + v0) * 5) + 4)) 0) →
    ∀ v6 : Int, v6 = (IntKind.wrap .i8 (List.getD l1 (Int.toNat ((0 + v0) * 5)) 0)) →
    ∀ v7 : Int, v7 = (IntKind.wrap .i8 (List.getD l1 (Int.toNat (((0 + v0) * 5) + 1)) 0)) →
    ∀ v8 : Int, v8 = (List.getD l1 (Int.toNat (((0 + v0) * 5) + 2)) 0) →
    ∀ v9 : Int, v9 = (List.getD l1 (Int.toNat (((0 + v0) * 5) + 3)) 0) →
    ∀ v10 : Int, v10 = (List.getD l1 (Int.toNat (((0 + v0) * 5) + 4)) 0) →
    (((!(decide (((IntKind.wrap .i8 (List.getD l0 (Int.toNat ((0 + v0) * 5)) 0)) : Int) = (IntKind.wrap .i8 (List.getD l1 (Int.toNat ((0 + v0) * 5)) 0))) && (decide (((IntKind.wrap .i8 (List.getD l0 (Int.toNat (((0 + v0) * 5) + 1)) 0)) : Int) = (IntKind.wrap .i8 (List.getD l1 (Int.toNat (((0 + v0) * 5) + 1)) 0))) && (decide (((List.getD l0 (Int.toNat (((0 + v0) * 5) + 2)) 0) : Int) = (List.getD l1 (Int.toNat (((0 + v0) * 5) + 2)) 0)) && (decide (((List.getD l0 (Int.toNat (((0 + v0) * 5) + 3)) 0) : Int) = (List.getD l1 (Int.toNat (((0 + v0) * 5) + 3)) 0)) && decide (((List.getD l0 (Int.toNat (((0 + v0) * 5) + 4)) 0) : Int) = (List.getD l1 (Int.toNat (((0 + v0) * 5) + 4)) 0))))))) = true →
     post [0] []) ∧ ((!(decide (((IntKind.wrap .i8 (List.getD l0 (Int.toNat ((0 + v0) * 5)) 0)) : Int) = (IntKind.wrap .i8 (List.getD l1 (Int.toNat ((0 + v0) * 5)) 0))) && (decide (((IntKind.wrap .i8 (List.getD l0 (Int.toNat (((0 + v0) * 5) + 1)) 0)) : Int) = (IntKind.wrap .i8 (List.getD l1 (Int.toNat (((0 + v0) * 5) + 1)) 0))) && (decide (((List.getD l0 (Int.toNat (((0 + v0) * 5) + 2)) 0) : Int) = (List.getD l1 (Int.toNat (((0 + v0) * 5) + 2)) 0)) && (decide (((List.getD l0 (Int.toNat (((0 + v0) * 5) + 3)) 0) : Int) = (List.getD l1 (Int.toNat (((0 + v0) * 5) + 3)) 0)) && decide (((List.getD l0 (Int.toNat (((0 + v0) * 5) + 4)) 0) : Int) = (List.getD l1 (Int.toNat (((0 + v0) * 5) + 4)) 0))))))) = false →
     ∀ v11 : Int, v11 = (IntKind.wrap .i64 (v0 + 1)) →
     (allHas [⟨(-9223372036854775808), 9223372036854775807⟩] [v11] ∧ I 1 ⟨[], [l0, l1]⟩ ⟨[v11], []⟩ ∧ M 1 ⟨[], [l0, l1]⟩ ⟨[v11], []⟩ < M 1 ⟨[], [l0, l1]⟩ ⟨[v0], []⟩)))))) ∧ (decide ((v0 : Int) < ((List.length l0 : Int) / 5)) = false →
    post [1] [])))))
theorem q47 (T : Tab) (I : Nat → Env → Env → Prop) (M : Nat → Env → Env → Nat) (pre : Nat → List Int → List (List Int) → Prop) (post : List Int → List (List Int) → Prop) (l0 l1 : List Int) : t47.plain T (presG pre I M) post ⟨[], [l0, l1]⟩ = p47 T I M pre post l0 l1 := by kernel_rfl
theorem k47 (T : Tab) (I : Nat → Env → Env → Prop) (M : Nat → Env → Env → Nat) (pre : Nat → List Int → List (List Int) → Prop) (hs : SubSig T c47.sigs) (ht : TotG pre c47.sigs) (hg : T.sig 47 = some s47) (hC : CtAll Try.prog T.fns (presQ pre) c47.sigs) (hk : CpAll Try.prog c47.cps) (hi : ∀ xs ls, allHas (parIvs s47.params) xs → pre 47 xs ls → allHas iv47 xs)
    (h : ∀ (l0 l1 : List Int), allHas iv47 [] → allL (parLvs s47.params) [l0, l1] → pre 47 [] [l0, l1] → p47 T I M pre (fun ys _ => ys = T.app 47 [] [l0, l1]) l0 l1) : CT Try.prog T.fns (presQ pre) 47 s47 :=
  T.ctg (F := ⟨c47, [(4, ⟨1, [5], [], [17, 18, 19, 20, 21, 22, 23, 26, 27, 28, 29, 30, 31, 32, 33, 34, 35, 36, 37, 38, 39, 40, 4, 24, 25], [⟨(-9223372036854775808), 9223372036854775807⟩], [], []⟩)]⟩) (fuel := 250) vc47 Try.checked.mixed hs ht hg hC hk Try.func47 I M (fun xs ls h1 h2 h3 => ⟨hi xs ls h1 h3, h2⟩) fun xs ls hx hl hp => by
    match xs, ls, hx, hl, hp with
    | [], [l0, l1], hx, hl, hp => rw [q47]; exact h l0 l1 hx hl hp
/-- loop.example/g01242/spec.SameTree -/
def s18 : Sig := ⟨[.lsts [[.i8, .i8, .i16, .i16, .i16]], .lsts [[.i8, .i8, .i16, .i16, .i16]]], [(false, [.b])], true⟩
noncomputable def c18 : Cfg := ⟨Try.prog, [(47, s47)], [], [], [], [], []⟩
def iv18 : List Iv := []
def t18 : VC :=
 (.call 47 (.l (.var 0) (.l (.var 1) .nil)) 1
 (.fin (.e (.var 0) .nil)))
theorem vc18 : vcOfI ⟨c18, []⟩ iv18 (parLvs s18.params) 250 Try.f18 s18 = t18 := by kernel_rfl
set_option linter.unusedVariables false in
def p18 (T : Tab) (I : Nat → Env → Env → Prop) (M : Nat → Env → Env → Nat) (pre : Nat → List Int → List (List Int) → Prop) (post : List Int → List (List Int) → Prop) (l0 l1 : List Int) : Prop :=
 ∀ v0 : Int, [v0] = T.outL 47 1 [] [l0, l1] →
 post [v0] []
theorem q18 (T : Tab) (I : Nat → Env → Env → Prop) (M : Nat → Env → Env → Nat) (pre : Nat → List Int → List (List Int) → Prop) (post : List Int → List (List Int) → Prop) (l0 l1 : List Int) : t18.plain T (presG pre I M) post ⟨[], [l0, l1]⟩ = p18 T I M pre post l0 l1 := by kernel_rfl
theorem k18 (T : Tab) (I : Nat → Env → Env → Prop) (M : Nat → Env → Env → Nat) (pre : Nat → List Int → List (List Int) → Prop) (hs : SubSig T c18.sigs) (ht : TotG pre c18.sigs) (hg : T.sig 18 = some s18) (hC : CtAll Try.prog T.fns (presQ pre) c18.sigs) (hk : CpAll Try.prog c18.cps) (hi : ∀ xs ls, allHas (parIvs s18.params) xs → pre 18 xs ls → allHas iv18 xs)
    (h : ∀ (l0 l1 : List Int), allHas iv18 [] → allL (parLvs s18.params) [l0, l1] → pre 18 [] [l0, l1] → p18 T I M pre (fun ys _ => ys = T.app 18 [] [l0, l1]) l0 l1) : CT Try.prog T.fns (presQ pre) 18 s18 :=
  T.ctg (F := ⟨c18, []⟩) (fuel := 250) vc18 Try.checked.mixed hs ht hg hC hk Try.func18 I M (fun xs ls h1 h2 h3 => ⟨hi xs ls h1 h3, h2⟩) fun xs ls hx hl hp => by
    match xs, ls, hx, hl, hp with
    | [], [l0, l1], hx, hl, hp => rw [q18]; exact h l0 l1 hx hl hp
/-- loop.example/g01242/impl.SameTree -/
def s19 : Sig := ⟨[.lsts [[.i8, .i8, .i16, .i16, .i16]], .lsts [[.i8, .i8, .i16, .i16, .i16]]], [(false, [.b])], true⟩
noncomputable def c19 : Cfg := ⟨Try.prog, [(48, s48)], [], [], [], [], []⟩
def iv19 : List Iv := []
def t19 : VC :=
 (.call 48 (.l (.var 0) (.l (.var 1) .nil)) 1
 (.fin (.e (.var 0) .nil)))
theorem vc19 : vcOfI ⟨c19, []⟩ iv19 (parLvs s19.params) 250 Try.f19 s19 = t19 := by kernel_rfl
set_option linter.unusedVariables false in
def p19 (T : Tab) (I : Nat → Env → Env → Prop) (M : Nat → Env → Env → Nat) (pre : Nat → List Int → List (List Int) → Prop) (post : List Int → List (List Int) → Prop) (l0 l1 : List Int) : Prop :=
 ∀ v0 : Int, [v0] = T.outL 48 1 [] [l0, l1] →
 post [v0] []
theorem q19 (T : Tab) (I : Nat → Env → Env → Prop) (M : Nat → Env → Env → Nat) (pre : Nat → List Int → List (List Int) → Prop) (post : List Int → List (List Int) → Prop) (l0 l1 : List Int) : t19.plain T (presG pre I M) post ⟨[], [l0, l1]⟩ = p19 T I M pre post l0 l1 := by kernel_rfl
theorem k19 (T : Tab) (I : Nat → Env → Env → Prop) (M : Nat → Env → Env → Nat) (pre : Nat → List Int → List (List Int) → Prop) (hs : SubSig T c19.sigs) (ht : TotG pre c19.sigs) (hg : T.sig 19 = some s19) (hC : CtAll Try.prog T.fns (presQ pre) c19.sigs) (hk : CpAll Try.prog c19.cps) (hi : ∀ xs ls, allHas (parIvs s19.params) xs → pre 19 xs ls → allHas iv19 xs)
    (h : ∀ (l0 l1 : List Int), allHas iv19 [] → allL (parLvs s19.params) [l0, l1] → pre 19 [] [l0, l1] → p19 T I M pre (fun ys _ => ys = T.app 19 [] [l0, l1]) l0 l1) : CT Try.prog T.fns (presQ pre) 19 s19 :=
  T.ctg (F := ⟨c19, []⟩) (fuel := 250) vc19 Try.checked.mixed hs ht hg hC hk Try.func19 I M (fun xs ls h1 h2 h3 => ⟨hi xs ls h1 h3, h2⟩) fun xs ls hx hl hp => by
    match xs, ls, hx, hl, hp with
    | [], [l0, l1], hx, hl, hp => rw [q19]; exact h l0 l1 hx hl hp
/-- loop.example/g01242/spec.l00In -/
def s70 : Sig := ⟨[.val false [.i .i64], .val false [.i .i64], .val false [.i .i64]], [(false, [.b])], true⟩
noncomputable def c70 : Cfg := ⟨Try.prog, [], [], [], [], [], []⟩
def iv70 : List Iv := [⟨(-9223372036854775808), 9223372036854775807⟩, ⟨(-9223372036854775808), 9223372036854775807⟩, ⟨(-9223372036854775808), 9223372036854775807⟩]
def t70 : VC :=
 (.ite (.le (.var 1) (.var 0))
  (.fin (.e (.ite (.le (.var 0) (.var 2)) (.lit 1) (.lit 0)) .nil))
  (.fin (.e (.lit 0) .nil)))
theorem vc70 : vcOfI ⟨c70, []⟩ iv70 (parLvs s70.params) 250 Try.f70 s70 = t70 := by kernel_rfl
set_option linter.unusedVariables false in
def p70 (T : Tab) (I : Nat → Env → Env → Prop) (M : Nat → Env → Env → Nat) (pre : Nat → List Int → List (List Int) → Prop) (post : List Int → List (List Int) → Prop) (v0 v1 v2 : Int) : Prop :=
 ((decide ((v1 : Int) ≤ v0) = true →
  post [(if decide ((v0 : Int) ≤ v2) = true then 1 else 0)] []) ∧ (decide ((v1 : Int) ≤ v0) = false →
  post [0] []))
theorem q70 (T : Tab) (I : Nat → Env → Env → Prop) (M : Nat → Env → Env → Nat) (pre : Nat → List Int → List (List Int) → Prop) (post : List Int → List (List Int) → Prop) (v0 v1 v2 : Int) : t70.plain T (presG pre I M) post ⟨[v0, v1, v2], []⟩ = p70 T I M pre post v0 v1 v2 := by kernel_rfl
theorem k70 (T : Tab) (I : Nat → Env → Env → Prop) (M : Nat → Env → Env → Nat) (pre : Nat → List Int → List (List Int) → Prop) (hs : SubSig T c70.sigs) (ht : TotG pre c70.sigs) (hg : T.sig 70 = some s70) (hC : CtAll Try.prog T.fns (presQ pre) c70.sigs) (hk : CpAll Try.prog c70.cps) (hi : ∀ xs ls, allHas (parIvs s70.params) xs → pre 70 xs ls → allHas iv70 xs)
    (h : ∀ (v0 v1 v2 : Int), allHas iv70 [v0, v1, v2] → allL (parLvs s70.params) [] → pre 70 [v0, v1, v2] [] → p70 T I M pre (fun ys _ => ys = T.app 70 [v0, v1, v2] []) v0 v1 v2) : CT Try.prog T.fns (presQ pre) 70 s70 :=
  T.ctg (F := ⟨c70, []⟩) (fuel := 250) vc70 Try.checked.mixed hs ht hg hC hk Try.func70 I M (fun xs ls h1 h2 h3 => ⟨hi xs ls h1 h3, h2⟩) fun xs ls hx hl hp => by
    match xs, ls, hx, hl, hp with
    | [v0, v1, v2], [], hx, hl, hp => rw [q70]; exact h v0 v1 v2 hx hl hp
/-- loop.example/g01242/spec.l06Ok -/
def s43 : Sig := ⟨[.plsts [[.i8, .i8, .i16, .i16, .i16]]], [(false, [.b])], true⟩
noncomputable def c43 : Cfg := ⟨Try.prog, [(70, s70)], [], [], [], [], []⟩
def iv43 : List Iv := []
def t43 : VC :=
 (.bind (.div (.len (.var 0)) (.lit 5))
 (.call 70 (.e (.var 0) (.e (.lit 1) (.e (.lit 60) .nil))) 1
 (.ite (.not (.eq (.var 1) (.lit 1)))
  (.fin (.e (.lit 0) .nil))
  (.loop 1 [(.lit 0)] [] [⟨(-9223372036854775808), 9223372036854775807⟩] []
   (.ite (.lt (.var 2) (.var 0))
    (.need [(.b (.le (.lit 0) (.var 2))), (.b (.lt (.var 2) (.div (.len (.var 0)) (.lit 5))))]
    (.need [(.b (.lt (.add (.mul (.add (.lit 0) (.var 2)) (.lit 5)) (.lit 2)) (.len (.var 0))))]
    (.bind (.at (.var 0) (.add (.mul (.add (.lit 0) (.var 2)) (.lit 5)) (.lit 2)))
    (.call 70 (.e (.var 3) (.e (.lit 0) (.e (.sub (.var 0) (.lit 1)) .nil))) 1
    (.ite (.not (.eq (.var 4) (.lit 1)))
     (.fin (.e (.lit 0) .nil))
     (.need [(.b (.lt (.add (.mul (.add (.lit 0) (.var 2)) (.lit 5)) (.lit 3)) (.len (.var 0))))]
     (.bind (.at (.var 0) (.add (.mul (.add (.lit 0) (.var 2)) (.lit 5)) (.lit 3)))
     (.call 70 (.e (.var 5) (.e (.lit 0) (.e (.sub (.var 0) (.lit 1)) .nil))) 1
     (.ite (.not (.eq (.var 6) (.lit 1)))
      (.fin (.e (.lit 0) .nil))
      (.need [(.b (.lt (.add (.mul (.add (.lit 0) (.var 2)) (.lit 5)) (.lit 4)) (.len (.var 0))))]
      (.bind (.at (.var 0) (.add (.mul (.add (.lit 0) (.var 2)) (.lit 5)) (.lit 4)))
      (.call 70 (.e (.var 7) (.e (.lit 0) (.e (.sub (.var 0) (.lit 1)) .nil))) 1
      (.ite (.not (.eq (.var 8) (.lit 1)))
       (.fin (.e (.lit 0) .nil))
       (.need [(.b (.lt (.mul (.add (.lit 0) (.var 2)) (.lit 5)) (.len (.var 0))))]
       (.bind (.wrap .i8 (.at (.var 0) (.mul (.add (.lit 0) (.var 2)) (.lit 5))))
       (.ite (.eq (.var 9) (.lit 1))
        (.need [(.b (.lt (.add (.mul (.add (.lit 0) (.var 2)) (.lit 5)) (.lit 1)) (.len (.var 0))))]
        (.bind (.wrap .i8 (.at (.var 0) (.add (.mul (.add (.lit 0) (.var 2)) (.lit 5)) (.lit 1))))
        (.ite (.not (.eq (.var 10) (.lit 0)))
         (.fin (.e (.lit 0) .nil))
         (.bind (.wrap .i64 (.add (.var 2) (.lit 1)))
         (.again 1 2 1 [⟨(-9223372036854775808), 9223372036854775807⟩] [(.var 11)] [])))))
        (.ite (.eq (.var 9) (.lit 2))
         (.need [(.b (.lt (.add (.mul (.add (.lit 0) (.var 2)) (.lit 5)) (.lit 1)) (.len (.var 0))))]
         (.bind (.wrap .i8 (.at (.var 0) (.add (.mul (.add (.lit 0) (.var 2)) (.lit 5)) (.lit 1))))
         (.ite (.le (.lit (-1)) (.var 10))
          (.need [(.b (.lt (.add (.mul (.add (.lit 0) (.var 2)) (.lit 5)) (.lit 1)) (.len (.var 0))))]
          (.bind (.wrap .i8 (.at (.var 0) (.add (.mul (.add (.lit 0) (.var 2)) (.lit 5)) (.lit 1))))
          (.ite (.le (.var 11) (.lit 1))
           (.need [(.b (.lt (.add (.mul (.add (.lit 0) (.var 2)) (.lit 5)) (.lit 3)) (.len (.var 0))))]
           (.bind (.at (.var 0) (.add (.mul (.add (.lit 0) (.var 2)) (.lit 5)) (.lit 3)))
           (.ite (.eq (.var 12) (.lit 0))
            (.need [(.b (.lt (.add (.mul (.add (.lit 0) (.var 2)) (.lit 5)) (.lit 4)) (.len (.var 0))))]
            (.bind (.at (.var 0) (.add (.mul (.add (.lit 0) (.var 2)) (.lit 5)) (.lit 4)))
            (.ite (.not (.eq (.var 13) (.lit 0)))
             (.fin (.e (.lit 0) .nil))
             (.bind (.wrap .i64 (.add (.var 2) (.lit 1)))
             (.again 1 2 1 [⟨(-9223372036854775808), 9223372036854775807⟩] [(.var 14)] [])))))
            (.fin (.e (.lit 0) .nil)))))
           (.fin (.e (.lit 0) .nil)))))
          (.fin (.e (.lit 0) .nil)))))
         (.fin (.e (.lit 0) .nil)))))))))))))))))))
    (.fin (.e (.lit 1) .nil)))))))
theorem vc43 : vcOfI ⟨c43, [(5, ⟨1, [4], [], [15, 16, 17, 20, 21, 22, 23, 24, 25, 5, 6, 26, 27, 30, 31, 32, 33, 34, 35, 36, 37, 38, 39, 40, 2, 28, 29, 41, 42, 43, 44, 46, 45, 47, 48, 49, 50, 51, 53, 52, 54, 55, 56, 57, 58, 59, 60, 61, 62, 63, 64, 65, 66, 67, 68, 69, 70, 71, 72, 73, 74, 75, 76, 77, 78, 79, 80, 81, 18, 19], [⟨(-9223372036854775808), 9223372036854775807⟩], [], []⟩)]⟩ iv43 (parLvs s43.params) 250 Try.f43 s43 = t43 := by kernel_rfl
set_option linter.unusedVariables false in
def p43 (T : Tab) (I : Nat → Env → Env → Prop) (M : Nat → Env → Env → Nat) (pre : Nat → List Int → List (List Int) → Prop) (post : List Int → List (List Int) → Prop) (l0 : List Int) : Prop :=
 ∀ v0 : Int, v0 = ((List.length l0 : Int) / 5) →
 ∀ v1 : Int, [v1] = T.out 70 1 [v0, 1, 60] →
 (((!decide ((v1 : Int) = 1)) = true →
  post [0] []) ∧ ((!decide ((v1 : Int) = 1)) = false →
  ((allHas [⟨(-9223372036854775808), 9223372036854775807⟩] [0] ∧ I 1 ⟨[v0, v1], [l0]⟩ ⟨[0], []⟩) ∧ ∀ v2 : Int, allHas [⟨(-9223372036854775808), 9223372036854775807⟩] [v2] → I 1 ⟨[v0, v1], [l0]⟩ ⟨[v2], []⟩ →
   ((decide ((v2 : Int) < v0) = true →
    ((decide ((0 : Int) ≤ v2) = true ∧ decide ((v2 : Int) < ((List.length l0 : Int) / 5)) = true) ∧ ((decide ((0 : Int) ≤ v2) = true ∧ decide ((v2 : Int) < ((List.length l0 : Int) / 5)) = true) →
    ((decide (((((0 + v2) * 5) + 2) : Int) < (List.length l0 : Int)) = true) ∧ ((decide (((((0 + v2) * 5) + 2) : Int) < (List.length l0 : Int)) = true) →
    ∀ v3 : Int, v3 = (List.getD l0 (Int.toNat (((0 + v2) * 5) + 2)) 0) →
    ∀ v4 : Int, [v4] = T.out 70 1 [v3, 0, (v0 - 1)] →
    (((!decide ((v4 : Int) = 1)) = true →
     post [0] []) ∧ ((!decide ((v4 : Int) = 1)) = false →
     ((decide (((((0 + v2) * 5) + 3) : Int) < (List.length l0 : Int)) = true) ∧ ((decide (((((0 + v2) * 5) + 3) : Int) < (List.length l0 : Int)) = true) →
     ∀ v5 : Int, v5 = (List.getD l0 (Int.toNat (((0 + v2) * 5) + 3)) 0) →
     ∀ v6 : Int, [v6] = T.out 70 1 [v5, 0, (v0 - 1)] →
     (((!decide ((v6 : Int) = 1)) = true →
      post [0] []) ∧ ((!decide ((v6 : Int) = 1)) = false →
      ((decide (((((0 + v2) * 5) + 4) : Int) < (List.length l0 : Int)) = true) ∧ ((decide (((((0 + v2) * 5) + 4) : Int) < (List.length l0 : Int)) = true) →
      ∀ v7 : Int, v7 = (List.getD l0 (Int.toNat (((0 + v2) * 5) + 4)) 0) →
      ∀ v8 : Int, [v8] = T.out 70 1 [v7, 0, (v0 - 1)] →
      (((!decide ((v8 : Int) = 1)) = true →
       post [0] []) ∧ ((!decide ((v8 : Int) = 1)) = false →
       ((decide ((((0 + v2) * 5) : Int) < (List.length l0 : Int)) = true) ∧ ((decide ((((0 + v2) * 5) : Int) < (List.length l0 : Int)) = true) →
       ∀ v9 : Int, v9 = (IntKind.wrap .i8 (List.getD l0 (Int.toNat ((0 + v2) * 5)) 0)) →
       ((decide ((v9 : Int) = 1) = true →
        ((decide (((((0 + v2) * 5) + 1) : Int) < (List.length l0 : Int)) = true) ∧ ((decide (((((0 + v2) * 5) + 1) : Int) < (List.length l0 : Int)) = true) →
        ∀ v10 : Int, v10 = (IntKind.wrap .i8 (List.getD l0 (Int.toNat (((0 + v2) * 5) + 1)) 0)) →
        (((!decide ((v10 : Int) = 0)) = true →
         post [0] []) ∧ ((!decide ((v10 : Int) = 0)) = false →
         ∀ v11 : Int, v11 = (IntKind.wrap .i64 (v2 + 1)) →
         (allHas [⟨(-9223372036854775808), 9223372036854775807⟩] [v11] ∧ I 1 ⟨[v0, v1], [l0]⟩ ⟨[v11], []⟩ ∧ M 1 ⟨[v0, v1], [l0]⟩ ⟨[v11], []⟩ < M 1 ⟨[v0, v1], [l0]⟩ ⟨[v2], []⟩)))))) ∧ (decide ((v9 : Int) = 1) = false →
        ((decide ((v9 : Int) = 2) = true →
         ((decide (((((0 + v2) * 5) + 1) : Int) < (List.length l0 : Int)) = true) ∧ ((decide (((((0 + v2) * 5) + 1) : Int) < (List.length l0 : Int)) = true) →
         ∀ v10 : Int, v10 = (IntKind.wrap .i8 (List.getD l0 (Int.toNat (((0 + v2) * 5) + 1)) 0)) →
         ((decide (((-1) : Int) ≤ v10) = true →
          ((decide (((((0 + v2) * 5) + 1) : Int) < (List.length l0 : Int)) = true) ∧ ((decide (((((0 + v2) * 5) + 1) : Int) < (List.length l0 : Int)) = true) →
          ∀ v11 : Int, v11 = (IntKind.wrap .i8 (List.getD l0 (Int.toNat (((0 + v2) * 5) + 1)) 0)) →
          ((decide ((v11 : Int) ≤ 1) = true →
           ((decide (((((0 + v2) * 5) + 3) : Int) < (List.length l0 : Int)) = true) ∧ ((decide (((((0 + v2) * 5) + 3) : Int) < (List.length l0 : Int)) = true) →
           ∀ v12 : Int, v12 = (List.getD l0 (Int.toNat (((0 + v2) * 5) + 3)) 0) →
           ((decide ((v12 : Int) = 0) = true →
            ((decide (((((0 + v2) * 5) + 4) : Int) < (List.length l0 : Int)) = true) ∧ ((decide (((((0 + v2) * 5) + 4) : Int) < (List.length l0 : Int)) = true) →
            ∀ v13 : Int, v13 = (List.getD l0 (Int.toNat (((0 + v2) * 5) + 4)) 0) →
            (((!decide ((v13 : Int) = 0)) = true →
             post [0] []) ∧ ((!decide ((v13 : Int) = 0)) = false →
             ∀ v14 : Int, v14 = (IntKind.wrap .i64 (v2 + 1)) →
             (allHas [⟨(-9223372036854775808), 9223372036854775807⟩] [v14] ∧ I 1 ⟨[v0, v1], [l0]⟩ ⟨[v14], []⟩ ∧ M 1 ⟨[v0, v1], [l0]⟩ ⟨[v14], []⟩ < M 1 ⟨[v0, v1], [l0]⟩ ⟨[v2], []⟩)))))) ∧ (decide ((v12 : Int) = 0) = false →
            post [0] []))))) ∧ (decide ((v11 : Int) ≤ 1) = false →
           post [0] []))))) ∧ (decide (((-1) : Int) ≤ v10) = false →
          post [0] []))))) ∧ (decide ((v9 : Int) = 2) = false →
         post [0] []))))))))))))))))))))) ∧ (decide ((v2 : Int) < v0) = false →
    post [1] [])))))
theorem q43 (T : Tab) (I : Nat → Env → Env → Prop) (M : Nat → Env → Env → Nat) (pre : Nat → List Int → List (List Int) → Prop) (post : List Int → List (List Int) → Prop) (l0 : List Int) : t43.plain T (presG pre I M) post ⟨[], [l0]⟩ = p43 T I M pre post l0 := by kernel_rfl
theorem k43 (T : Tab) (I : Nat → Env → Env → Prop) (M : Nat → Env → Env → Nat) (pre : Nat → List Int → List (List Int) → Prop) (hs : SubSig T c43.sigs) (ht : TotG pre c43.sigs) (hg : T.sig 43 = some s43) (hC : CtAll Try.prog T.fns (presQ pre) c43.sigs) (hk : CpAll Try.prog c43.cps) (hi : ∀ xs ls, allHas (parIvs s43.params) xs → pre 43 xs ls → allHas iv43 xs)
    (h : ∀ (l0 : List Int), allHas iv43 [] → allL (parLvs s43.params) [l0] → pre 43 [] [l0] → p43 T I M pre (fun ys _ => ys = T.app 43 [] [l0]) l0) : CT Try.prog T.fns (presQ pre) 43 s43 :=
  T.ctg (F := ⟨c43, [(5, ⟨1, [4], [], [15, 16, 17, 20, 21, 22, 23, 24, 25, 5, 6, 26, 27, 30, 31, 32, 33, 34, 35, 36, 37, 38, 39, 40, 2, 28, 29, 41, 42, 43, 44, 46, 45, 47, 48, 49, 50, 51, 53, 52, 54, 55, 56, 57, 58, 59, 60, 61, 62, 63, 64, 65, 66, 67, 68, 69, 70, 71, 72, 73, 74, 75, 76, 77, 78, 79, 80, 81, 18, 19], [⟨(-9223372036854775808), 9223372036854775807⟩], [], []⟩)]⟩) (fuel := 250) vc43 Try.checked.mixed hs ht hg hC hk Try.func43 I M (fun xs ls h1 h2 h3 => ⟨hi xs ls h1 h3, h2⟩) fun xs ls hx hl hp => by
    match xs, ls, hx, hl, hp with
    | [], [l0], hx, hl, hp => rw [q43]; exact h l0 hx hl hp
/-- loop.example/g01242/spec.ValidTree -/
def s14 : Sig := ⟨[.lsts [[.i8, .i8, .i16, .i16, .i16]]], [(false, [.b])], true⟩
noncomputable def c14 : Cfg := ⟨Try.prog, [(43, s43)], [], [], [], [], []⟩
def iv14 : List Iv := []
def t14 : VC :=
 (.call 43 (.l (.var 0) .nil) 1
 (.fin (.e (.var 0) .nil)))
theorem vc14 : vcOfI ⟨c14, []⟩ iv14 (parLvs s14.params) 250 Try.f14 s14 = t14 := by kernel_rfl
set_option linter.unusedVariables false in
def p14 (T : Tab) (I : Nat → Env → Env → Prop) (M : Nat → Env → Env → Nat) (pre : Nat → List Int → List (List Int) → Prop) (post : List Int → List (List Int) → Prop) (l0 : List Int) : Prop :=
 ∀ v0 : Int, [v0] = T.outL 43 1 [] [l0] →
 post [v0] []
theorem q14 (T : Tab) (I : Nat → Env → Env → Prop) (M : Nat → Env → Env → Nat) (pre : Nat → List Int → List (List Int) → Prop) (post : List Int → List (List Int) → Prop) (l0 : List Int) : t14.plain T (presG pre I M) post ⟨[], [l0]⟩ = p14 T I M pre post l0 := by kernel_rfl
theorem k14 (T : Tab) (I : Nat → Env → Env → Prop) (M : Nat → Env → Env → Nat) (pre : Nat → List Int → List (List Int) → Prop) (hs : SubSig T c14.sigs) (ht : TotG pre c14.sigs) (hg : T.sig 14 = some s14) (hC : CtAll Try.prog T.fns (presQ pre) c14.sigs) (hk : CpAll Try.prog c14.cps) (hi : ∀ xs ls, allHas (parIvs s14.params) xs → pre 14 xs ls → allHas iv14 xs)
    (h : ∀ (l0 : List Int), allHas iv14 [] → allL (parLvs s14.params) [l0] → pre 14 [] [l0] → p14 T I M pre (fun ys _ => ys = T.app 14 [] [l0]) l0) : CT Try.prog T.fns (presQ pre) 14 s14 :=
  T.ctg (F := ⟨c14, []⟩) (fuel := 250) vc14 Try.checked.mixed hs ht hg hC hk Try.func14 I M (fun xs ls h1 h2 h3 => ⟨hi xs ls h1 h3, h2⟩) fun xs ls hx hl hp => by
    match xs, ls, hx, hl, hp with
    | [], [l0], hx, hl, hp => rw [q14]; exact h l0 hx hl hp
/-- loop.example/g01242/impl.isNoDigit -/
def s72 : Sig := ⟨[.val false [.i .i8]], [(false, [.b])], true⟩
noncomputable def c72 : Cfg := ⟨Try.prog, [], [], [], [], [], []⟩
def iv72 : List Iv := [⟨(-128), 127⟩]
def t72 : VC :=
 (.ite (.le (.lit (-1)) (.var 0))
  (.fin (.e (.ite (.lt (.lit 1) (.var 0)) (.lit 1) (.lit 0)) .nil))
  (.fin (.e (.lit 1) .nil)))
theorem vc72 : vcOfI ⟨c72, []⟩ iv72 (parLvs s72.params) 250 Try.f72 s72 = t72 := by kernel_rfl
set_option linter.unusedVariables false in
def p72 (T : Tab) (I : Nat → Env → Env → Prop) (M : Nat → Env → Env → Nat) (pre : Nat → List Int → List (List Int) → Prop) (post : List Int → List (List Int) → Prop) (v0 : Int) : Prop :=
 ((decide (((-1) : Int) ≤ v0) = true →
  post [(if decide ((1 : Int) < v0) = true then 1 else 0)] []) ∧ (decide (((-1) : Int) ≤ v0) = false →
  post [1] []))
theorem q72 (T : Tab) (I : Nat → Env → Env → Prop) (M : Nat → Env → Env → Nat) (pre : Nat → List Int → List (List Int) → Prop) (post : List Int → List (List Int) → Prop) (v0 : Int) : t72.plain T (presG pre I M) post ⟨[v0], []⟩ = p72 T I M pre post v0 := by kernel_rfl
theorem k72 (T : Tab) (I : Nat → Env → Env → Prop) (M : Nat → Env → Env → Nat) (pre : Nat → List Int → List (List Int) → Prop) (hs : SubSig T c72.sigs) (ht : TotG pre c72.sigs) (hg : T.sig 72 = some s72) (hC : CtAll Try.prog T.fns (presQ pre) c72.sigs) (hk : CpAll Try.prog c72.cps) (hi : ∀ xs ls, allHas (parIvs s72.params) xs → pre 72 xs ls → allHas iv72 xs)
    (h : ∀ (v0 : Int), allHas iv72 [v0] → allL (parLvs s72.params) [] → pre 72 [v0] [] → p72 T I M pre (fun ys _ => ys = T.app 72 [v0] []) v0) : CT Try.prog T.fns (presQ pre) 72 s72 :=
  T.ctg (F := ⟨c72, []⟩) (fuel := 250) vc72 Try.checked.mixed hs ht hg hC hk Try.func72 I M (fun xs ls h1 h2 h3 => ⟨hi xs ls h1 h3, h2⟩) fun xs ls hx hl hp => by
    match xs, ls, hx, hl, hp with
    | [v0], [], hx, hl, hp => rw [q72]; exact h v0 hx hl hp
/-- (loop.example/g01242/impl.Fork).isValidAmong -/
def s45 : Sig := ⟨[.val true [.i .i8, .i .i8, .i .i16, .i .i16, .i .i16], .val false [.i .i64]], [(false, [.b])], true⟩
noncomputable def c45 : Cfg := ⟨Try.prog, [(72, s72)], [], [], [], [], []⟩
def iv45 : List Iv := [⟨(-128), 127⟩, ⟨(-128), 127⟩, ⟨(-32768), 32767⟩, ⟨(-32768), 32767⟩, ⟨(-32768), 32767⟩, ⟨(-9223372036854775808), 9223372036854775807⟩]
def t45 : VC :=
 (.ite (.le (.lit 0) (.var 2))
  (.ite (.le (.var 5) (.var 2))
   (.fin (.e (.lit 0) .nil))
   (.ite (.le (.lit 0) (.var 3))
    (.ite (.le (.var 5) (.var 3))
     (.fin (.e (.lit 0) .nil))
     (.ite (.le (.lit 0) (.var 4))
      (.ite (.le (.var 5) (.var 4))
       (.fin (.e (.lit 0) .nil))
       (.ite (.eq (.var 0) (.lit 1))
        (.fin (.e (.ite (.eq (.var 1) (.lit 0)) (.lit 1) (.lit 0)) .nil))
        (.ite (.eq (.var 0) (.lit 2))
         (.call 72 (.e (.var 1) .nil) 1
         (.ite (.not (.eq (.var 6) (.lit 1)))
          (.ite (.eq (.var 3) (.lit 0))
           (.fin (.e (.ite (.eq (.var 4) (.lit 0)) (.lit 1) (.lit 0)) .nil))
           (.fin (.e (.lit 0) .nil)))
          (.fin (.e (.lit 0) .nil))))
         (.fin (.e (.lit 0) .nil)))))
      (.fin (.e (.lit 0) .nil))))
    (.fin (.e (.lit 0) .nil))))
  (.fin (.e (.lit 0) .nil)))
theorem vc45 : vcOfI ⟨c45, []⟩ iv45 (parLvs s45.params) 250 Try.f45 s45 = t45 := by kernel_rfl
set_option linter.unusedVariables false in
def p45 (T : Tab) (I : Nat → Env → Env → Prop) (M : Nat → Env → Env → Nat) (pre : Nat → List Int → List (List Int) → Prop) (post : List Int → List (List Int) → Prop) (v0 v1 v2 v3 v4 v5 : Int) : Prop :=
 ((decide ((0 : Int) ≤ v2) = true →
  ((decide ((v5 : Int) ≤ v2) = true →
   post [0] []) ∧ (decide ((v5 : Int) ≤ v2) = false →
   ((decide ((0 : Int) ≤ v3) = true →
    ((decide ((v5 : Int) ≤ v3) = true →
     post [0] []) ∧ (decide ((v5 : Int) ≤ v3) = false →
     ((decide ((0 : Int) ≤ v4) = true →
      ((decide ((v5 : Int) ≤ v4) = true →
       post [0] []) ∧ (decide ((v5 : Int) ≤ v4) = false →
       ((decide ((v0 : Int) = 1) = true →
        post [(if decide ((v1 : Int) = 0) = true then 1 else 0)] []) ∧ (decide ((v0 : Int) = 1) = false →
        ((decide ((v0 : Int) = 2) = true →
         ∀ v6 : Int, [v6] = T.out 72 1 [v1] →
         (((!decide ((v6 : Int) = 1)) = true →
          ((decide ((v3 : Int) = 0) = true →
           post [(if decide ((v4 : Int) = 0) = true then 1 else 0)] []) ∧ (decide ((v3 : Int) = 0) = false →
           post [0] []))) ∧ ((!decide ((v6 : Int) = 1)) = false →
          post [0] []))) ∧ (decide ((v0 : Int) = 2) = false →
         post [0] []))))))) ∧ (decide ((0 : Int) ≤ v4) = false →
      post [0] []))))) ∧ (decide ((0 : Int) ≤ v3) = false →
    post [0] []))))) ∧ (decide ((0 : Int) ≤ v2) = false →
  post [0] []))
theorem q45 (T : Tab) (I : Nat → Env → Env → Prop) (M : Nat → Env → Env → Nat) (pre : Nat → List Int → List (List Int) → Prop) (post : List Int → List (List Int) → Prop) (v0 v1 v2 v3 v4 v5 : Int) : t45.plain T (presG pre I M) post ⟨[v0, v1, v2, v3, v4, v5], []⟩ = p45 T I M pre post v0 v1 v2 v3 v4 v5 := by kernel_rfl
theorem k45 (T : Tab) (I : Nat → Env → Env → Prop) (M : Nat → Env → Env → Nat) (pre : Nat → List Int → List (List Int) → Prop) (hs : SubSig T c45.sigs) (ht : TotG pre c45.sigs) (hg : T.sig 45 = some s45) (hC : CtAll Try.prog T.fns (presQ pre) c45.sigs) (hk : CpAll Try.prog c45.cps) (hi : ∀ xs ls, allHas (parIvs s45.params) xs → pre 45 xs ls → allHas iv45 xs)
    (h : ∀ (v0 v1 v2 v3 v4 v5 : Int), allHas iv45 [v0, v1, v2, v3, v4, v5] → allL (parLvs s45.params) [] → pre 45 [v0, v1, v2, v3, v4, v5] [] → p45 T I M pre (fun ys _ => ys = T.app 45 [v0, v1, v2, v3, v4, v5] []) v0 v1 v2 v3 v4 v5) : CT Try.prog T.fns (presQ pre) 45 s45 :=
  T.ctg (F := ⟨c45, []⟩) (fuel := 250) vc45 Try.checked.mixed hs ht hg hC hk Try.func45 I M (fun xs ls h1 h2 h3 => ⟨hi xs ls h1 h3, h2⟩) fun xs ls hx hl hp => by
    match xs, ls, hx, hl, hp with
    | [v0, v1, v2, v3, v4, v5], [], hx, hl, hp => rw [q45]; exact h v0 v1 v2 v3 v4 v5 hx hl hp
/-- loop.example/g01242/impl.ValidTree -/
def s16 : Sig := ⟨[.lsts [[.i8, .i8, .i16, .i16, .i16]]], [(false, [.b])], true⟩
noncomputable def c16 : Cfg := ⟨Try.prog, [(45, s45)], [], [], [], [], []⟩
def iv16 : List Iv := []
def t16 : VC :=
 (.ite (.le (.lit 1) (.div (.len (.var 0)) (.lit 5)))
  (.ite (.lt (.lit 60) (.div (.len (.var 0)) (.lit 5)))
   (.fin (.e (.lit 0) .nil))
   (.loop 1 [(.lit 0)] [] [⟨(-9223372036854775808), 9223372036854775807⟩] []
    (.ite (.lt (.var 0) (.div (.len (.var 0)) (.lit 5)))
     (.need [(.b (.le (.lit 0) (.var 0))), (.b (.lt (.var 0) (.div (.len (.var 0)) (.lit 5))))]
     (.need [(.b (.lt (.add (.mul (.add (.lit 0) (.var 0)) (.lit 5)) (.lit 4)) (.len (.var 0))))]
     (.bind (.wrap .i8 (.at (.var 0) (.mul (.add (.lit 0) (.var 0)) (.lit 5))))
     (.bind (.wrap .i8 (.at (.var 0) (.add (.mul (.add (.lit 0) (.var 0)) (.lit 5)) (.lit 1))))
     (.bind (.at (.var 0) (.add (.mul (.add (.lit 0) (.var 0)) (.lit 5)) (.lit 2)))
     (.bind (.at (.var 0) (.add (.mul (.add (.lit 0) (.var 0)) (.lit 5)) (.lit 3)))
     (.bind (.at (.var 0) (.add (.mul (.add (.lit 0) (.var 0)) (.lit 5)) (.lit 4)))
     (.call 45 (.e (.var 1) (.e (.var 2) (.e (.var 3) (.e (.var 4) (.e (.var 5) (.e (.div (.len (.var 0)) (.lit 5)) .nil)))))) 1
     (.ite (.not (.eq (.var 6) (.lit 1)))
      (.fin (.e (.lit 0) .nil))
      (.again 1 0 1 [⟨(-9223372036854775808), 9223372036854775807⟩] [(.wrap .i64 (.add (.var 0) (.lit 1)))] []))))))))))
     (.fin (.e (.lit 1) .nil)))))
  (.fin (.e (.lit 0) .nil)))
theorem vc16 : vcOfI ⟨c16, [(4, ⟨1, [18], [], [19, 20, 21, 4, 22, 23, 24, 25, 26, 27, 2, 28], [⟨(-9223372036854775808), 9223372036854775807⟩], [], []⟩)]⟩ iv16 (parLvs s16.params) 250 Try.f16 s16 = t16 := by kernel_rfl
set_option linter.unusedVariables false in
def p16 (T : Tab) (I : Nat → Env → Env → Prop) (M : Nat → Env → Env → Nat) (pre : Nat → List Int → List (List Int) → Prop) (post : List Int → List (List Int) → Prop) (l0 : List Int) : Prop :=
 ((decide ((1 : Int) ≤ ((List.length l0 : Int) / 5)) = true →
  ((decide ((60 : Int) < ((List.length l0 : Int) / 5)) = true →
   post [0] []) ∧ (decide ((60 : Int) < ((List.length l0 : Int) / 5)) = false →
   ((allHas [⟨(-9223372036854775808), 9223372036854775807⟩] [0] ∧ I 1 ⟨[], [l0]⟩ ⟨[0], []⟩) ∧ ∀ v0 : Int, allHas [⟨(-9223372036854775808), 9223372036854775807⟩] [v0] → I 1 ⟨[], [l0]⟩ ⟨[v0], []⟩ →
    ((decide ((v0 : Int) < ((List.length l0 : Int) / 5)) = true →
     ((decide ((0 : Int) ≤ v0) = true ∧ decide ((v0 : Int) < ((List.length l0 : Int) / 5)) = true) ∧ ((decide ((0 : Int) ≤ v0) = true ∧ decide ((v0 : Int) < ((List.length l0 : Int) / 5)) = true) →
     ((decide (((((0 + v0) * 5) + 4) : Int) < (List.length l0 : Int)) = true) ∧ ((decide (((((0 + v0) * 5) + 4) : Int) < (List.length l0 : Int)) = true) →
     ∀ v1 : Int, v1 = (IntKind.wrap .i8 (List.getD l0 (Int.toNat ((0 + v0) * 5)) 0)) →
     ∀ v2 : Int, v2 = (IntKind.wrap .i8 (List.getD l0 (Int.toNat (((0 + v0) * 5) + 1)) 0)) →
     ∀ v3 : Int, v3 = (List.getD l0 (Int.toNat (((0 + v0) * 5) + 2)) 0) →
     ∀ v4 : Int, v4 = (List.getD l0 (Int.toNat (((0 + v0) * 5) + 3)) 0) →
     ∀ v5 : Int, v5 = (List.getD l0 (Int.toNat (((0 + v0) * 5) + 4)) 0) →
     ∀ v6 : Int, [v6] = T.out 45 1 [v1, v2, v3, v4, v5, ((List.length l0 : Int) / 5)] →
     (((!decide ((v6 : Int) = 1)) = true →
      post [0] []) ∧ ((!decide ((v6 : Int) = 1)) = false →
      (allHas [⟨(-9223372036854775808), 9223372036854775807⟩] [(IntKind.wrap .i64 (v0 + 1))] ∧ I 1 ⟨[], [l0]⟩ ⟨[(IntKind.wrap .i64 (v0 + 1))], []⟩ ∧ M 1 ⟨[], [l0]⟩ ⟨[(IntKind.wrap .i64 (v0 + 1))], []⟩ < M 1 ⟨[], [l0]⟩ ⟨[v0], []⟩)))))))) ∧ (decide ((v0 : Int) < ((List.length l0 : Int) / 5)) = false →
     post [1] [])))))) ∧ (decide ((1 : Int) ≤ ((List.length l0 : Int) / 5)) = false →
  post [0] []))
theorem q16 (T : Tab) (I : Nat → Env → Env → Prop) (M : Nat → Env → Env → Nat) (pre : Nat → List Int → List (List Int) → Prop) (post : List Int → List (List Int) → Prop) (l0 : List Int) : t16.plain T (presG pre I M) post ⟨[], [l0]⟩ = p16 T I M pre post l0 := by kernel_rfl
theorem k16 (T : Tab) (I : Nat → Env → Env → Prop) (M : Nat → Env → Env → Nat) (pre : Nat → List Int → List (List Int) → Prop) (hs : SubSig T c16.sigs) (ht : TotG pre c16.sigs) (hg : T.sig 16 = some s16) (hC : CtAll Try.prog T.fns (presQ pre) c16.sigs) (hk : CpAll Try.prog c16.cps) (hi : ∀ xs ls, allHas (parIvs s16.params) xs → pre 16 xs ls → allHas iv16 xs)
    (h : ∀ (l0 : List Int), allHas iv16 [] → allL (parLvs s16.params) [l0] → pre 16 [] [l0] → p16 T I M pre (fun ys _ => ys = T.app 16 [] [l0]) l0) : CT Try.prog T.fns (presQ pre) 16 s16 :=
  T.ctg (F := ⟨c16, [(4, ⟨1, [18], [], [19, 20, 21, 4, 22, 23, 24, 25, 26, 27, 2, 28], [⟨(-9223372036854775808), 9223372036854775807⟩], [], []⟩)]⟩) (fuel := 250) vc16 Try.checked.mixed hs ht hg hC hk Try.func16 I M (fun xs ls h1 h2 h3 => ⟨hi xs ls h1 h3, h2⟩) fun xs ls hx hl hp => by
    match xs, ls, hx, hl, hp with
    | [], [l0], hx, hl, hp => rw [q16]; exact h l0 hx hl hp
/-- loop.example/g01242/laws.FnExactSameTree -/
def s4 : Sig := ⟨[.lsts [[.i8, .i8, .i16, .i16, .i16]], .lsts [[.i8, .i8, .i16, .i16, .i16]]], [(false, [.b])], true⟩
noncomputable def c4 : Cfg := ⟨Try.prog, [(13, s13), (18, s18), (19, s19), (17, s17)], [(15, s15, y15)], [], [], [], []⟩
def iv4 : List Iv := []
def t4 : VC :=
 (.call 13 (.l (.var 0) (.e (.lit 1048576) .nil)) 1
 (.ite (.lt (.var 0) (.lit 0))
  (.fin (.e (.lit 1) .nil))
  (.call 13 (.l (.var 1) (.e (.var 0) .nil)) 1
  (.ite (.lt (.var 1) (.lit 0))
   (.fin (.e (.lit 1) .nil))
   (.need [(.b (.le (.len (.var 0)) (.lit 1099511627776))), (.b (.le (.len (.var 1)) (.lit 1099511627776)))]
   (.call 18 (.l (.var 0) (.l (.var 1) .nil)) 1
   (.need [(.b (.le (.len (.var 0)) (.lit 1099511627776)))]
   (.need [(.b (.le (.len (.var 1)) (.lit 1099511627776)))]
   (.call 19 (.l (.var 0) (.l (.var 1) .nil)) 1
   (.ite (.not (.beq (.eq (.var 3) (.lit 1)) (.eq (.var 2) (.lit 1))))
    (.fin (.e (.lit 0) .nil))
    (.need [(.b (.le (.len (.var 0)) (.lit 1099511627776)))]
    (.call 17 (.l (.var 0) (.l (.var 0) .nil)) 1
    (.ite (.not (.eq (.var 4) (.lit 1)))
     (.fin (.e (.lit 0) .nil))
     (.need [(.b (.le (.len (.var 1)) (.lit 1099511627776)))]
     (.call 17 (.l (.var 1) (.l (.var 1) .nil)) 1
     (.ite (.not (.eq (.var 5) (.lit 1)))
      (.fin (.e (.lit 0) .nil))
      (.fin (.e (.lit 1) .nil))))))))))))))))))
theorem vc4 : vcOfI ⟨c4, []⟩ iv4 (parLvs s4.params) 250 Try.f4 s4 = t4 := by kernel_rfl
set_option linter.unusedVariables false in
def p4 (T : Tab) (I : Nat → Env → Env → Prop) (M : Nat → Env → Env → Nat) (pre : Nat → List Int → List (List Int) → Prop) (post : List Int → List (List Int) → Prop) (l0 l1 : List Int) : Prop :=
 ∀ v0 : Int, [v0] = T.outL 13 1 [1048576] [l0] →
 ((decide ((v0 : Int) < 0) = true →
  post [1] []) ∧ (decide ((v0 : Int) < 0) = false →
  ∀ v1 : Int, [v1] = T.outL 13 1 [v0] [l1] →
  ((decide ((v1 : Int) < 0) = true →
   post [1] []) ∧ (decide ((v1 : Int) < 0) = false →
   ((decide (((List.length l0 : Int) : Int) ≤ 1099511627776) = true ∧ decide (((List.length l1 : Int) : Int) ≤ 1099511627776) = true) ∧ ((decide (((List.length l0 : Int) : Int) ≤ 1099511627776) = true ∧ decide (((List.length l1 : Int) : Int) ≤ 1099511627776) = true) →
   ∀ v2 : Int, [v2] = T.outL 18 1 [] [l0, l1] →
   ((decide (((List.length l0 : Int) : Int) ≤ 1099511627776) = true) ∧ ((decide (((List.length l0 : Int) : Int) ≤ 1099511627776) = true) →
   ((decide (((List.length l1 : Int) : Int) ≤ 1099511627776) = true) ∧ ((decide (((List.length l1 : Int) : Int) ≤ 1099511627776) = true) →
   ∀ v3 : Int, [v3] = T.outL 19 1 [] [l0, l1] →
   (((!(decide ((v3 : Int) = 1) == decide ((v2 : Int) = 1))) = true →
    post [0] []) ∧ ((!(decide ((v3 : Int) = 1) == decide ((v2 : Int) = 1))) = false →
    ((decide (((List.length l0 : Int) : Int) ≤ 1099511627776) = true) ∧ ((decide (((List.length l0 : Int) : Int) ≤ 1099511627776) = true) →
    ∀ v4 : Int, [v4] = T.outL 17 1 [] [l0, l0] →
    (((!decide ((v4 : Int) = 1)) = true →
     post [0] []) ∧ ((!decide ((v4 : Int) = 1)) = false →
     ((decide (((List.length l1 : Int) : Int) ≤ 1099511627776) = true) ∧ ((decide (((List.length l1 : Int) : Int) ≤ 1099511627776) = true) →
     ∀ v5 : Int, [v5] = T.outL 17 1 [] [l1, l1] →
     (((!decide ((v5 : Int) = 1)) = true →
      post [0] []) ∧ ((!decide ((v5 : Int) = 1)) = false →
      post [1] []))))))))))))))))))))
theorem q4 (T : Tab) (I : Nat → Env → Env → Prop) (M : Nat → Env → Env → Nat) (pre : Nat → List Int → List (List Int) → Prop) (post : List Int → List (List Int) → Prop) (l0 l1 : List Int) : t4.plain T (presG pre I M) post ⟨[], [l0, l1]⟩ = p4 T I M pre post l0 l1 := by kernel_rfl
theorem k4 (T : Tab) (I : Nat → Env → Env → Prop) (M : Nat → Env → Env → Nat) (pre : Nat → List Int → List (List Int) → Prop) (hs : SubSig T c4.sigs) (ht : TotG pre c4.sigs) (hg : T.sig 4 = some s4) (hC : CtAll Try.prog T.fns (presQ pre) c4.sigs) (hk : CpAll Try.prog c4.cps) (hi : ∀ xs ls, allHas (parIvs s4.params) xs → pre 4 xs ls → allHas iv4 xs)
    (h : ∀ (l0 l1 : List Int), allHas iv4 [] → allL (parLvs s4.params) [l0, l1] → pre 4 [] [l0, l1] → p4 T I M pre (fun ys _ => ys = T.app 4 [] [l0, l1]) l0 l1) : CT Try.prog T.fns (presQ pre) 4 s4 :=
  T.ctg (F := ⟨c4, []⟩) (fuel := 250) vc4 Try.checked.mixed hs ht hg hC hk Try.func4 I M (fun xs ls h1 h2 h3 => ⟨hi xs ls h1 h3, h2⟩) fun xs ls hx hl hp => by
    match xs, ls, hx, hl, hp with
    | [], [l0, l1], hx, hl, hp => rw [q4]; exact h l0 l1 hx hl hp
/-- loop.example/g01242/laws.FnExactValidTree -/
def s3 : Sig := ⟨[.lsts [[.i8, .i8, .i16, .i16, .i16]]], [(false, [.b])], true⟩
noncomputable def c3 : Cfg := ⟨Try.prog, [(13, s13), (14, s14), (16, s16), (17, s17)], [(15, s15, y15)], [], [], [], []⟩
def iv3 : List Iv := []
def t3 : VC :=
 (.call 13 (.l (.var 0) (.e (.lit 1048576) .nil)) 1
 (.ite (.lt (.var 0) (.lit 0))
  (.fin (.e (.lit 1) .nil))
  (.need [(.b (.le (.len (.var 0)) (.lit 1099511627776)))]
  (.call 14 (.l (.var 0) .nil) 1
  (.need [(.b (.le (.len (.var 0)) (.lit 1099511627776)))]
  (.call 16 (.l (.var 0) .nil) 1
  (.ite (.not (.beq (.eq (.var 2) (.lit 1)) (.eq (.var 1) (.lit 1))))
   (.fin (.e (.lit 0) .nil))
   (.need [(.b (.le (.len (.var 0)) (.lit 1099511627776)))]
   (.call 17 (.l (.var 0) (.l (.var 0) .nil)) 1
   (.ite (.not (.eq (.var 3) (.lit 1)))
    (.fin (.e (.lit 0) .nil))
    (.fin (.e (.lit 1) .nil))))))))))))
theorem vc3 : vcOfI ⟨c3, []⟩ iv3 (parLvs s3.params) 250 Try.f3 s3 = t3 := by kernel_rfl
set_option linter.unusedVariables false in
def p3 (T : Tab) (I : Nat → Env → Env → Prop) (M : Nat → Env → Env → Nat) (pre : Nat → List Int → List (List Int) → Prop) (post : List Int → List (List Int) → Prop) (l0 : List Int) : Prop :=
 ∀ v0 : Int, [v0] = T.outL 13 1 [1048576] [l0] →
 ((decide ((v0 : Int) < 0) = true →
  post [1] []) ∧ (decide ((v0 : Int) < 0) = false →
  ((decide (((List.length l0 : Int) : Int) ≤ 1099511627776) = true) ∧ ((decide (((List.length l0 : Int) : Int) ≤ 1099511627776) = true) →
  ∀ v1 : Int, [v1] = T.outL 14 1 [] [l0] →
  ((decide (((List.length l0 : Int) : Int) ≤ 1099511627776) = true) ∧ ((decide (((List.length l0 : Int) : Int) ≤ 1099511627776) = true) →
  ∀ v2 : Int, [v2] = T.outL 16 1 [] [l0] →
  (((!(decide ((v2 : Int) = 1) == decide ((v1 : Int) = 1))) = true →
   post [0] []) ∧ ((!(decide ((v2 : Int) = 1) == decide ((v1 : Int) = 1))) = false →
   ((decide (((List.length l0 : Int) : Int) ≤ 1099511627776) = true) ∧ ((decide (((List.length l0 : Int) : Int) ≤ 1099511627776) = true) →
   ∀ v3 : Int, [v3] = T.outL 17 1 [] [l0, l0] →
   (((!decide ((v3 : Int) = 1)) = true →
    post [0] []) ∧ ((!decide ((v3 : Int) = 1)) = false →
    post [1] []))))))))))))
theorem q3 (T : Tab) (I : Nat → Env → Env → Prop) (M : Nat → Env → Env → Nat) (pre : Nat → List Int → List (List Int) → Prop) (post : List Int → List (List Int) → Prop) (l0 : List Int) : t3.plain T (presG pre I M) post ⟨[], [l0]⟩ = p3 T I M pre post l0 := by kernel_rfl
theorem k3 (T : Tab) (I : Nat → Env → Env → Prop) (M : Nat → Env → Env → Nat) (pre : Nat → List Int → List (List Int) → Prop) (hs : SubSig T c3.sigs) (ht : TotG pre c3.sigs) (hg : T.sig 3 = some s3) (hC : CtAll Try.prog T.fns (presQ pre) c3.sigs) (hk : CpAll Try.prog c3.cps) (hi : ∀ xs ls, allHas (parIvs s3.params) xs → pre 3 xs ls → allHas iv3 xs)
    (h : ∀ (l0 : List Int), allHas iv3 [] → allL (parLvs s3.params) [l0] → pre 3 [] [l0] → p3 T I M pre (fun ys _ => ys = T.app 3 [] [l0]) l0) : CT Try.prog T.fns (presQ pre) 3 s3 :=
  T.ctg (F := ⟨c3, []⟩) (fuel := 250) vc3 Try.checked.mixed hs ht hg hC hk Try.func3 I M (fun xs ls h1 h2 h3 => ⟨hi xs ls h1 h3, h2⟩) fun xs ls hx hl hp => by
    match xs, ls, hx, hl, hp with
    | [], [l0], hx, hl, hp => rw [q3]; exact h l0 hx hl hp
end Go.Proofs.Ytickjfclmoecpaa.Sx
