import Derived.Test.YtpghmmklbhobmaaSxX
import Derived.Test.YtpghmmklbhobmaaSxZ
import Derived.Test.YtpghmmklbhobmaaK1
import Derived.Test.YtpghmmklbhobmaaK2
import Derived.Test.YtpghmmklbhobmaaChecked
import Derived.KernelRfl
namespace Go.Proofs.Ytpghmmklbhobmaa.Sx
open Go Go.RowKit
/-- loop.example/g01242/impl.isNoDigit -/
def s32 : Sig := ⟨[.val false [.i .i8]], [(false, [.b])], true⟩
noncomputable def c32 : Cfg := ⟨Try.prog, [], [], [], [], [], [], [], 77, []⟩
def iv32 : List Iv := [⟨(-128), 127⟩]
def t32 : VC :=
 (.ite (.le (.lit (-1)) (.var 0))
  (.fin (.e (.ite (.lt (.lit 1) (.var 0)) (.lit 1) (.lit 0)) .nil))
  (.fin (.e (.lit 1) .nil)))
theorem vc32 : vcOfI ⟨c32, []⟩ iv32 (parLvs s32.params) 250 Try.f32 s32 = t32 := by kernel_rfl
set_option linter.unusedVariables false in
def p32 (T : Tab) (I : Nat → Env → Env → Prop) (M : Nat → Env → Env → Nat) (pre : Nat → List Int → List (List Int) → Prop) (post : List Int → List (List Int) → Prop) (v0 : Int) : Prop :=
 ((decide (((-1) : Int) ≤ v0) = true →
  post [(if decide ((1 : Int) < v0) = true then 1 else 0)] []) ∧ (decide (((-1) : Int) ≤ v0) = false →
  post [1] []))
theorem q32 (T : Tab) (I : Nat → Env → Env → Prop) (M : Nat → Env → Env → Nat) (pre : Nat → List Int → List (List Int) → Prop) (post : List Int → List (List Int) → Prop) (v0 : Int) : t32.plain T (presG pre I M) post ⟨[v0], []⟩ = p32 T I M pre post v0 := by kernel_rfl
theorem k32 (T : Tab) (I : Nat → Env → Env → Prop) (M : Nat → Env → Env → Nat) (pre : Nat → List Int → List (List Int) → Prop) (hs : SubSig T c32.sigs) (ht : TotG pre c32.sigs) (hg : T.sig 32 = some s32) (hC : CtAll Try.prog T.fns (presQ pre) c32.pfs c32.pty c32.cls c32.sigs) (hk : CpAll Try.prog c32.cps) (hi : ∀ xs ls, allHas (parIvs s32.params) xs → pre 32 xs ls → allHas iv32 xs)
    (h : ∀ (v0 : Int), allHas iv32 [v0] → allL (parLvs s32.params) [] → pre 32 [v0] [] → p32 T I M pre (fun ys _ => ys = T.app 32 [v0] []) v0) : CT Try.prog T.fns (presQ pre) 32 s32 :=
  T.ctg (F := ⟨c32, []⟩) (fuel := 250) vc32 Try.checked.mixed hs ht hg hC hk Try.func32 I M (fun xs ls h1 h2 h3 => ⟨hi xs ls h1 h3, h2⟩) fun xs ls hx hl hp => by
    match xs, ls, hx, hl, hp with
    | [v0], [], hx, hl, hp => rw [q32]; exact h v0 hx hl hp
/-- slices.IndexFunc[[]int8,int8] -/
def s50 : Sig := ⟨[.lst [.i8], .fnc 32], [(false, [.i .i64])], true⟩
noncomputable def c50 : Cfg := ⟨Try.prog, [(32, s32)], [], [], [], [], [], [], 77, []⟩
def iv50 : List Iv := []
def t50 : VC :=
 (.loop 1 [(.lit 0)] [] [⟨(-9223372036854775808), 9223372036854775807⟩] []
  (.ite (.lt (.var 0) (.len (.var 0)))
   (.need [(.b (.le (.lit 0) (.var 0))), (.b (.lt (.var 0) (.len (.var 0))))]
   (.need [(.b (.lt (.add (.lit 0) (.var 0)) (.len (.var 0))))]
   (.bind (.at (.var 0) (.add (.lit 0) (.var 0)))
   (.call 32 (.e (.var 1) .nil) 1
   (.ite (.eq (.var 2) (.lit 1))
    (.fin (.e (.var 0) .nil))
    (.again 1 0 1 [⟨(-9223372036854775808), 9223372036854775807⟩] [(.wrap .i64 (.add (.var 0) (.lit 1)))] []))))))
   (.fin (.e (.lit (-1)) .nil))))
theorem vc50 : vcOfI ⟨c50, [(2, ⟨1, [8], [], [9, 10, 5, 11, 12, 13, 14, 15, 16, 17, 4, 18], [⟨(-9223372036854775808), 9223372036854775807⟩], [], []⟩)]⟩ iv50 (parLvs s50.params) 250 Try.f50 s50 = t50 := by kernel_rfl
set_option linter.unusedVariables false in
def p50 (T : Tab) (I : Nat → Env → Env → Prop) (M : Nat → Env → Env → Nat) (pre : Nat → List Int → List (List Int) → Prop) (post : List Int → List (List Int) → Prop) (l0 : List Int) : Prop :=
 ((allHas [⟨(-9223372036854775808), 9223372036854775807⟩] [0] ∧ I 1 ⟨[], [l0]⟩ ⟨[0], []⟩) ∧ ∀ v0 : Int, allHas [⟨(-9223372036854775808), 9223372036854775807⟩] [v0] → I 1 ⟨[], [l0]⟩ ⟨[v0], []⟩ →
  ((decide ((v0 : Int) < (List.length l0 : Int)) = true →
   ((decide ((0 : Int) ≤ v0) = true ∧ decide ((v0 : Int) < (List.length l0 : Int)) = true) ∧ ((decide ((0 : Int) ≤ v0) = true ∧ decide ((v0 : Int) < (List.length l0 : Int)) = true) →
   ((decide (((0 + v0) : Int) < (List.length l0 : Int)) = true) ∧ ((decide (((0 + v0) : Int) < (List.length l0 : Int)) = true) →
   ∀ v1 : Int, v1 = (List.getD l0 (Int.toNat (0 + v0)) 0) →
   ∀ v2 : Int, [v2] = T.out 32 1 [v1] →
   ((decide ((v2 : Int) = 1) = true →
    post [v0] []) ∧ (decide ((v2 : Int) = 1) = false →
    (allHas [⟨(-9223372036854775808), 9223372036854775807⟩] [(IntKind.wrap .i64 (v0 + 1))] ∧ I 1 ⟨[], [l0]⟩ ⟨[(IntKind.wrap .i64 (v0 + 1))], []⟩ ∧ M 1 ⟨[], [l0]⟩ ⟨[(IntKind.wrap .i64 (v0 + 1))], []⟩ < M 1 ⟨[], [l0]⟩ ⟨[v0], []⟩)))))))) ∧ (decide ((v0 : Int) < (List.length l0 : Int)) = false →
   post [(-1)] [])))
theorem q50 (T : Tab) (I : Nat → Env → Env → Prop) (M : Nat → Env → Env → Nat) (pre : Nat → List Int → List (List Int) → Prop) (post : List Int → List (List Int) → Prop) (l0 : List Int) : t50.plain T (presG pre I M) post ⟨[], [l0]⟩ = p50 T I M pre post l0 := by kernel_rfl
theorem k50 (T : Tab) (I : Nat → Env → Env → Prop) (M : Nat → Env → Env → Nat) (pre : Nat → List Int → List (List Int) → Prop) (hs : SubSig T c50.sigs) (ht : TotG pre c50.sigs) (hg : T.sig 50 = some s50) (hC : CtAll Try.prog T.fns (presQ pre) c50.pfs c50.pty c50.cls c50.sigs) (hk : CpAll Try.prog c50.cps) (hi : ∀ xs ls, allHas (parIvs s50.params) xs → pre 50 xs ls → allHas iv50 xs)
    (h : ∀ (l0 : List Int), allHas iv50 [] → allL (parLvs s50.params) [l0] → pre 50 [] [l0] → p50 T I M pre (fun ys _ => ys = T.app 50 [] [l0]) l0) : CT Try.prog T.fns (presQ pre) 50 s50 :=
  T.ctg (F := ⟨c50, [(2, ⟨1, [8], [], [9, 10, 5, 11, 12, 13, 14, 15, 16, 17, 4, 18], [⟨(-9223372036854775808), 9223372036854775807⟩], [], []⟩)]⟩) (fuel := 250) vc50 Try.checked.mixed hs ht hg hC hk Try.func50 I M (fun xs ls h1 h2 h3 => ⟨hi xs ls h1 h3, h2⟩) fun xs ls hx hl hp => by
    match xs, ls, hx, hl, hp with
    | [], [l0], hx, hl, hp => rw [q50]; exact h l0 hx hl hp
/-- slices.ContainsFunc[[]int8,int8] -/
def s31 : Sig := ⟨[.lst [.i8], .fnc 32], [(false, [.b])], true⟩
noncomputable def c31 : Cfg := ⟨Try.prog, [(50, s50)], [], [], [], [], [], [], 77, []⟩
def iv31 : List Iv := []
def t31 : VC :=
 (.call 50 (.l (.var 0) .nil) 1
 (.fin (.e (.ite (.le (.lit 0) (.var 0)) (.lit 1) (.lit 0)) .nil)))
theorem vc31 : vcOfI ⟨c31, []⟩ iv31 (parLvs s31.params) 250 Try.f31 s31 = t31 := by kernel_rfl
set_option linter.unusedVariables false in
def p31 (T : Tab) (I : Nat → Env → Env → Prop) (M : Nat → Env → Env → Nat) (pre : Nat → List Int → List (List Int) → Prop) (post : List Int → List (List Int) → Prop) (l0 : List Int) : Prop :=
 ∀ v0 : Int, [v0] = T.outL 50 1 [] [l0] →
 post [(if decide ((0 : Int) ≤ v0) = true then 1 else 0)] []
theorem q31 (T : Tab) (I : Nat → Env → Env → Prop) (M : Nat → Env → Env → Nat) (pre : Nat → List Int → List (List Int) → Prop) (post : List Int → List (List Int) → Prop) (l0 : List Int) : t31.plain T (presG pre I M) post ⟨[], [l0]⟩ = p31 T I M pre post l0 := by kernel_rfl
theorem k31 (T : Tab) (I : Nat → Env → Env → Prop) (M : Nat → Env → Env → Nat) (pre : Nat → List Int → List (List Int) → Prop) (hs : SubSig T c31.sigs) (ht : TotG pre c31.sigs) (hg : T.sig 31 = some s31) (hC : CtAll Try.prog T.fns (presQ pre) c31.pfs c31.pty c31.cls c31.sigs) (hk : CpAll Try.prog c31.cps) (hi : ∀ xs ls, allHas (parIvs s31.params) xs → pre 31 xs ls → allHas iv31 xs)
    (h : ∀ (l0 : List Int), allHas iv31 [] → allL (parLvs s31.params) [l0] → pre 31 [] [l0] → p31 T I M pre (fun ys _ => ys = T.app 31 [] [l0]) l0) : CT Try.prog T.fns (presQ pre) 31 s31 :=
  T.ctg (F := ⟨c31, []⟩) (fuel := 250) vc31 Try.checked.mixed hs ht hg hC hk Try.func31 I M (fun xs ls h1 h2 h3 => ⟨hi xs ls h1 h3, h2⟩) fun xs ls hx hl hp => by
    match xs, ls, hx, hl, hp with
    | [], [l0], hx, hl, hp => rw [q31]; exact h l0 hx hl hp
/-- loop.example/g01242/laws.toInt8S -/
def s9 : PSh := .lst [.i8]
def y9 : List TypeId := [55]
noncomputable def c9 : Cfg := ⟨Try.prog, [], [], [], [], [], [], [], 77, []⟩
def t9 : VC :=
 (.need [(.b (.le (.len (.var 0)) (.len (.var 0))))]
 (.loop 1 [(.lit 0)] [(.zeros (.mul (.len (.var 0)) (.lit 1)))] [⟨(-9223372036854775808), 9223372036854775807⟩] [(⟨(-128), 127⟩, 9223372036854775807)]
  (.ite (.lt (.var 0) (.len (.var 0)))
   (.need [(.b (.eq (.len (.zeros (.mul (.len (.var 0)) (.lit 1)))) (.len (.var 1))))]
   (.need [(.b (.le (.lit 0) (.var 0))), (.b (.lt (.var 0) (.len (.var 0))))]
   (.need [(.b (.lt (.add (.lit 0) (.var 0)) (.len (.var 0))))]
   (.bind (.at (.var 0) (.add (.lit 0) (.var 0)))
   (.need [(.b (.le (.lit 0) (.var 0))), (.b (.lt (.var 0) (.len (.var 1))))]
   (.need [(.b (.lt (.add (.lit 0) (.var 0)) (.len (.var 1))))]
   (.bind (.wrap .i64 (.add (.var 0) (.lit 1)))
   (.again 1 0 1 [⟨(-9223372036854775808), 9223372036854775807⟩] [(.var 2)] [(.set (.var 1) (.add (.lit 0) (.var 0)) (.var 1))]))))))))
   (.need [(.b (.eq (.len (.zeros (.mul (.len (.var 0)) (.lit 1)))) (.len (.var 1))))]
   (.need [(.b (.eq (.len (.var 1)) (.len (.var 1))))]
   (.fin (.l (.var 1) .nil)))))))
theorem vc9 : vcCp ⟨c9, [(3, ⟨1, [4], [], [8, 9, 10, 11, 14, 15, 16, 17, 18, 19, 20, 12, 13], [⟨(-9223372036854775808), 9223372036854775807⟩], [1], []⟩)]⟩ 250 Try.f9 s9 y9 = t9 := by kernel_rfl
set_option linter.unusedVariables false in
def p9 (T : Tab) (I : Nat → Env → Env → Prop) (M : Nat → Env → Env → Nat) (pre : Nat → List Int → List (List Int) → Prop) (post : List Int → List (List Int) → Prop) (l0 : List Int) : Prop :=
 ((decide (((List.length l0 : Int) : Int) ≤ (List.length l0 : Int)) = true) ∧ ((decide (((List.length l0 : Int) : Int) ≤ (List.length l0 : Int)) = true) →
 ((allHas [⟨(-9223372036854775808), 9223372036854775807⟩] [0] ∧ I 1 ⟨[], [l0]⟩ ⟨[0], [(List.replicate (Int.toNat ((List.length l0 : Int) * 1)) (0 : Int))]⟩) ∧ ∀ v0 : Int, ∀ l1 : List Int, allHas [⟨(-9223372036854775808), 9223372036854775807⟩] [v0] → allL [(⟨(-128), 127⟩, 9223372036854775807)] [l1] → I 1 ⟨[], [l0]⟩ ⟨[v0], [l1]⟩ →
  ((decide ((v0 : Int) < (List.length l0 : Int)) = true →
   ((decide (((List.length (List.replicate (Int.toNat ((List.length l0 : Int) * 1)) (0 : Int)) : Int) : Int) = (List.length l1 : Int)) = true) ∧ ((decide (((List.length (List.replicate (Int.toNat ((List.length l0 : Int) * 1)) (0 : Int)) : Int) : Int) = (List.length l1 : Int)) = true) →
   ((decide ((0 : Int) ≤ v0) = true ∧ decide ((v0 : Int) < (List.length l0 : Int)) = true) ∧ ((decide ((0 : Int) ≤ v0) = true ∧ decide ((v0 : Int) < (List.length l0 : Int)) = true) →
   ((decide (((0 + v0) : Int) < (List.length l0 : Int)) = true) ∧ ((decide (((0 + v0) : Int) < (List.length l0 : Int)) = true) →
   ∀ v1 : Int, v1 = (List.getD l0 (Int.toNat (0 + v0)) 0) →
   ((decide ((0 : Int) ≤ v0) = true ∧ decide ((v0 : Int) < (List.length l1 : Int)) = true) ∧ ((decide ((0 : Int) ≤ v0) = true ∧ decide ((v0 : Int) < (List.length l1 : Int)) = true) →
   ((decide (((0 + v0) : Int) < (List.length l1 : Int)) = true) ∧ ((decide (((0 + v0) : Int) < (List.length l1 : Int)) = true) →
   ∀ v2 : Int, v2 = (IntKind.wrap .i64 (v0 + 1)) →
   (allHas [⟨(-9223372036854775808), 9223372036854775807⟩] [v2] ∧ I 1 ⟨[], [l0]⟩ ⟨[v2], [(List.set l1 (Int.toNat (0 + v0)) v1)]⟩ ∧ M 1 ⟨[], [l0]⟩ ⟨[v2], [(List.set l1 (Int.toNat (0 + v0)) v1)]⟩ < M 1 ⟨[], [l0]⟩ ⟨[v0], [l1]⟩)))))))))))) ∧ (decide ((v0 : Int) < (List.length l0 : Int)) = false →
   ((decide (((List.length (List.replicate (Int.toNat ((List.length l0 : Int) * 1)) (0 : Int)) : Int) : Int) = (List.length l1 : Int)) = true) ∧ ((decide (((List.length (List.replicate (Int.toNat ((List.length l0 : Int) * 1)) (0 : Int)) : Int) : Int) = (List.length l1 : Int)) = true) →
   ((decide (((List.length l1 : Int) : Int) = (List.length l1 : Int)) = true) ∧ ((decide (((List.length l1 : Int) : Int) = (List.length l1 : Int)) = true) →
   post [] [l1])))))))))
theorem q9 (T : Tab) (I : Nat → Env → Env → Prop) (M : Nat → Env → Env → Nat) (pre : Nat → List Int → List (List Int) → Prop) (post : List Int → List (List Int) → Prop) (l0 : List Int) : t9.plain T (presG pre I M) post ⟨[], [l0]⟩ = p9 T I M pre post l0 := by kernel_rfl
theorem k9 (T : Tab) (I : Nat → Env → Env → Prop) (M : Nat → Env → Env → Nat) (pre : Nat → List Int → List (List Int) → Prop) (hs : SubSig T c9.sigs) (ht : TotG pre c9.sigs) (hC : CtAll Try.prog T.fns (presQ pre) c9.pfs c9.pty c9.cls c9.sigs) (hk : CpAll Try.prog c9.cps)
    (h : ∀ (l0 : List Int), allL (cpLvs s9) [l0] → (∀ i ks, s9.lss[i]? = some ks → Kinds ks (List.getD [l0] i [])) → p9 T I M pre (fun _ l => l = [l0]) l0) : CTC Try.prog 9 s9 y9 :=
  Tab.ctc (F := ⟨c9, [(3, ⟨1, [4], [], [8, 9, 10, 11, 14, 15, 16, 17, 18, 19, 20, 12, 13], [⟨(-9223372036854775808), 9223372036854775807⟩], [1], []⟩)]⟩) (fuel := 250) vc9 Try.checked.mixed hs ht hC hk Try.func9 rfl I M fun ls hl hkk => by
    match ls, hl, hkk with
    | [l0], hl, hkk => rw [q9]; exact h l0 hl hkk
/-- loop.example/g01242/laws.eqInt8S -/
def s12 : Sig := ⟨[.lst [.i8], .lst [.i8]], [(false, [.b])], true⟩
noncomputable def c12 : Cfg := ⟨Try.prog, [], [], [], [], [], [], [], 77, []⟩
def iv12 : List Iv := []
def t12 : VC :=
 (.ite (.not (.eq (.len (.var 0)) (.len (.var 1))))
  (.fin (.e (.lit 0) .nil))
  (.loop 1 [(.lit 0)] [] [⟨(-9223372036854775808), 9223372036854775807⟩] []
   (.ite (.lt (.var 0) (.len (.var 0)))
    (.need [(.b (.le (.lit 0) (.var 0))), (.b (.lt (.var 0) (.len (.var 0)))), (.b (.lt (.add (.lit 0) (.var 0)) (.len (.var 0)))), (.b (.le (.lit 0) (.var 0))), (.b (.lt (.var 0) (.len (.var 1)))), (.b (.lt (.add (.lit 0) (.var 0)) (.len (.var 1))))]
    (.bind (.at (.var 0) (.add (.lit 0) (.var 0)))
    (.bind (.at (.var 1) (.add (.lit 0) (.var 0)))
    (.ite (.not (.eq (.at (.var 0) (.add (.lit 0) (.var 0))) (.at (.var 1) (.add (.lit 0) (.var 0)))))
     (.fin (.e (.lit 0) .nil))
     (.bind (.wrap .i64 (.add (.var 0) (.lit 1)))
     (.again 1 0 2 [⟨(-9223372036854775808), 9223372036854775807⟩] [(.var 3)] []))))))
    (.fin (.e (.lit 1) .nil)))))
theorem vc12 : vcOfI ⟨c12, [(4, ⟨1, [5], [], [11, 12, 13, 14, 17, 18, 19, 20, 21, 22, 23, 24, 25, 4, 15, 16], [⟨(-9223372036854775808), 9223372036854775807⟩], [], []⟩)]⟩ iv12 (parLvs s12.params) 250 Try.f12 s12 = t12 := by kernel_rfl
set_option linter.unusedVariables false in
def p12 (T : Tab) (I : Nat → Env → Env → Prop) (M : Nat → Env → Env → Nat) (pre : Nat → List Int → List (List Int) → Prop) (post : List Int → List (List Int) → Prop) (l0 l1 : List Int) : Prop :=
 (((!decide (((List.length l0 : Int) : Int) = (List.length l1 : Int))) = true →
  post [0] []) ∧ ((!decide (((List.length l0 : Int) : Int) = (List.length l1 : Int))) = false →
  ((allHas [⟨(-9223372036854775808), 9223372036854775807⟩] [0] ∧ I 1 ⟨[], [l0, l1]⟩ ⟨[0], []⟩) ∧ ∀ v0 : Int, allHas [⟨(-9223372036854775808), 9223372036854775807⟩] [v0] → I 1 ⟨[], [l0, l1]⟩ ⟨[v0], []⟩ →
   ((decide ((v0 : Int) < (List.length l0 : Int)) = true →
    ((decide ((0 : Int) ≤ v0) = true ∧ decide ((v0 : Int) < (List.length l0 : Int)) = true ∧ decide (((0 + v0) : Int) < (List.length l0 : Int)) = true ∧ decide ((0 : Int) ≤ v0) = true ∧ decide ((v0 : Int) < (List.length l1 : Int)) = true ∧ decide (((0 + v0) : Int) < (List.length l1 : Int)) = true) ∧ ((decide ((0 : Int) ≤ v0) = true ∧ decide ((v0 : Int) < (List.length l0 : Int)) = true ∧ decide (((0 + v0) : Int) < (List.length l0 : Int)) = true ∧ decide ((0 : Int) ≤ v0) = true ∧ decide ((v0 : Int) < (List.length l1 : Int)) = true ∧ decide (((0 + v0) : Int) < (List.length l1 : Int)) = true) →
    ∀ v1 : Int, v1 = (List.getD l0 (Int.toNat (0 + v0)) 0) →
    ∀ v2 : Int, v2 = (List.getD l1 (Int.toNat (0 + v0)) 0) →
    (((!decide (((List.getD l0 (Int.toNat (0 + v0)) 0) : Int) = (List.getD l1 (Int.toNat (0 + v0)) 0))) = true →
     post [0] []) ∧ ((!decide (((List.getD l0 (Int.toNat (0 + v0)) 0) : Int) = (List.getD l1 (Int.toNat (0 + v0)) 0))) = false →
     ∀ v3 : Int, v3 = (IntKind.wrap .i64 (v0 + 1)) →
     (allHas [⟨(-9223372036854775808), 9223372036854775807⟩] [v3] ∧ I 1 ⟨[], [l0, l1]⟩ ⟨[v3], []⟩ ∧ M 1 ⟨[], [l0, l1]⟩ ⟨[v3], []⟩ < M 1 ⟨[], [l0, l1]⟩ ⟨[v0], []⟩)))))) ∧ (decide ((v0 : Int) < (List.length l0 : Int)) = false →
    post [1] [])))))
theorem q12 (T : Tab) (I : Nat → Env → Env → Prop) (M : Nat → Env → Env → Nat) (pre : Nat → List Int → List (List Int) → Prop) (post : List Int → List (List Int) → Prop) (l0 l1 : List Int) : t12.plain T (presG pre I M) post ⟨[], [l0, l1]⟩ = p12 T I M pre post l0 l1 := by kernel_rfl
theorem k12 (T : Tab) (I : Nat → Env → Env → Prop) (M : Nat → Env → Env → Nat) (pre : Nat → List Int → List (List Int) → Prop) (hs : SubSig T c12.sigs) (ht : TotG pre c12.sigs) (hg : T.sig 12 = some s12) (hC : CtAll Try.prog T.fns (presQ pre) c12.pfs c12.pty c12.cls c12.sigs) (hk : CpAll Try.prog c12.cps) (hi : ∀ xs ls, allHas (parIvs s12.params) xs → pre 12 xs ls → allHas iv12 xs)
    (h : ∀ (l0 l1 : List Int), allHas iv12 [] → allL (parLvs s12.params) [l0, l1] → pre 12 [] [l0, l1] → p12 T I M pre (fun ys _ => ys = T.app 12 [] [l0, l1]) l0 l1) : CT Try.prog T.fns (presQ pre) 12 s12 :=
  T.ctg (F := ⟨c12, [(4, ⟨1, [5], [], [11, 12, 13, 14, 17, 18, 19, 20, 21, 22, 23, 24, 25, 4, 15, 16], [⟨(-9223372036854775808), 9223372036854775807⟩], [], []⟩)]⟩) (fuel := 250) vc12 Try.checked.mixed hs ht hg hC hk Try.func12 I M (fun xs ls h1 h2 h3 => ⟨hi xs ls h1 h3, h2⟩) fun xs ls hx hl hp => by
    match xs, ls, hx, hl, hp with
    | [], [l0, l1], hx, hl, hp => rw [q12]; exact h l0 l1 hx hl hp
/-- loop.example/g01242/impl.withDigit -/
def s35 : Sig := ⟨[.val true [.b, .i .u32, .i .u32, .i .u32, .i .u32, .i .u32, .i .u32], .val false [.i .i8]], [(false, [.i .i64]), (true, [.b, .i .u32, .i .u32, .i .u32, .i .u32, .i .u32, .i .u32])], false⟩
noncomputable def c35 : Cfg := ⟨Try.prog, [(26, s26), (24, s24), (52, s52), (45, s45)], [], [], [], [], [], [24], 77, []⟩
def iv35 : List Iv := [⟨0, 1⟩, ⟨0, 4294967295⟩, ⟨0, 4294967295⟩, ⟨0, 4294967295⟩, ⟨0, 4294967295⟩, ⟨0, 4294967295⟩, ⟨0, 4294967295⟩, ⟨(-128), 127⟩]
def t35 : VC :=
 (.call 26 (.e (.var 0) (.e (.var 1) (.e (.var 2) (.e (.var 3) (.e (.var 4) (.e (.var 5) (.e (.var 6) (.e (.lit 1) .nil)))))))) 8
 (.call 24 (.e (.var 8) (.e (.var 9) (.e (.var 10) (.e (.var 11) (.e (.var 12) (.e (.var 13) (.e (.var 14) (.e (.var 15) .nil)))))))) 8
 (.ite (.eq (.var 16) (.lit 0))
  (.call 52 (.e (.var 7) .nil) 7
  (.call 45 (.e (.var 17) (.e (.var 18) (.e (.var 19) (.e (.var 20) (.e (.var 21) (.e (.var 22) (.e (.var 23) (.e (.var 24) (.e (.var 25) (.e (.var 26) (.e (.var 27) (.e (.var 28) (.e (.var 29) (.e (.var 30) .nil)))))))))))))) 8
  (.call 24 (.e (.var 31) (.e (.var 32) (.e (.var 33) (.e (.var 34) (.e (.var 35) (.e (.var 36) (.e (.var 37) (.e (.var 38) .nil)))))))) 8
  (.ite (.eq (.var 39) (.lit 0))
   (.fin (.e (.lit 0) (.e (.var 40) (.e (.var 41) (.e (.var 42) (.e (.var 43) (.e (.var 44) (.e (.var 45) (.e (.var 46) .nil)))))))))
   (.need [(.b (.not (.eq (.var 39) (.lit 0))))]
   (.fin (.e (.var 39) (.e (.lit 0) (.e (.lit 0) (.e (.lit 0) (.e (.lit 0) (.e (.lit 0) (.e (.lit 0) (.e (.lit 0) .nil))))))))))))))
  (.need [(.b (.not (.eq (.var 16) (.lit 0))))]
  (.fin (.e (.var 16) (.e (.lit 0) (.e (.lit 0) (.e (.lit 0) (.e (.lit 0) (.e (.lit 0) (.e (.lit 0) (.e (.lit 0) .nil)))))))))))))
theorem vc35 : vcPf ⟨c35, []⟩ c35.pty iv35 (parLvs s35.params) 250 Try.f35 s35 = t35 := by kernel_rfl
set_option linter.unusedVariables false in
def p35 (T : Tab) (I : Nat → Env → Env → Prop) (M : Nat → Env → Env → Nat) (pre : Nat → List Int → List (List Int) → Prop) (post : List Int → List (List Int) → Prop) (v0 v1 v2 v3 v4 v5 v6 v7 : Int) : Prop :=
 ∀ v8 v9 v10 v11 v12 v13 v14 v15 : Int, [v8, v9, v10, v11, v12, v13, v14, v15] = T.out 26 8 [v0, v1, v2, v3, v4, v5, v6, 1] →
 ∀ v16 v17 v18 v19 v20 v21 v22 v23 : Int, [v16, v17, v18, v19, v20, v21, v22, v23] = T.out 24 8 [v8, v9, v10, v11, v12, v13, v14, v15] →
 ((decide ((v16 : Int) = 0) = true →
  ∀ v24 v25 v26 v27 v28 v29 v30 : Int, [v24, v25, v26, v27, v28, v29, v30] = T.out 52 7 [v7] →
  ∀ v31 v32 v33 v34 v35 v36 v37 v38 : Int, [v31, v32, v33, v34, v35, v36, v37, v38] = T.out 45 8 [v17, v18, v19, v20, v21, v22, v23, v24, v25, v26, v27, v28, v29, v30] →
  ∀ v39 v40 v41 v42 v43 v44 v45 v46 : Int, [v39, v40, v41, v42, v43, v44, v45, v46] = T.out 24 8 [v31, v32, v33, v34, v35, v36, v37, v38] →
  ((decide ((v39 : Int) = 0) = true →
   post [0, v40, v41, v42, v43, v44, v45, v46] []) ∧ (decide ((v39 : Int) = 0) = false →
   (((!decide ((v39 : Int) = 0)) = true) ∧ (((!decide ((v39 : Int) = 0)) = true) →
   post [v39, 0, 0, 0, 0, 0, 0, 0] []))))) ∧ (decide ((v16 : Int) = 0) = false →
  (((!decide ((v16 : Int) = 0)) = true) ∧ (((!decide ((v16 : Int) = 0)) = true) →
  post [v16, 0, 0, 0, 0, 0, 0, 0] []))))
theorem q35 (T : Tab) (I : Nat → Env → Env → Prop) (M : Nat → Env → Env → Nat) (pre : Nat → List Int → List (List Int) → Prop) (post : List Int → List (List Int) → Prop) (v0 v1 v2 v3 v4 v5 v6 v7 : Int) : t35.plain T (presG pre I M) post ⟨[v0, v1, v2, v3, v4, v5, v6, v7], []⟩ = p35 T I M pre post v0 v1 v2 v3 v4 v5 v6 v7 := by kernel_rfl
theorem k35 (T : Tab) (I : Nat → Env → Env → Prop) (M : Nat → Env → Env → Nat) (pre : Nat → List Int → List (List Int) → Prop) (hs : SubSig T c35.sigs) (ht : TotG pre c35.sigs) (hg : T.sig 35 = some s35) (hC : CtAll Try.prog T.fns (presQ pre) c35.pfs c35.pty c35.cls c35.sigs) (hk : CpAll Try.prog c35.cps) (hi : ∀ xs ls, allHas (parIvs s35.params) xs → pre 35 xs ls → allHas iv35 xs)
    (h : ∀ (v0 v1 v2 v3 v4 v5 v6 v7 : Int), allHas iv35 [v0, v1, v2, v3, v4, v5, v6, v7] → allL (parLvs s35.params) [] → pre 35 [v0, v1, v2, v3, v4, v5, v6, v7] [] → p35 T I M pre (fun ys _ => ys = T.app 35 [v0, v1, v2, v3, v4, v5, v6, v7] []) v0 v1 v2 v3 v4 v5 v6 v7) : CTP Try.prog T.fns (presQ pre) c35.pty 35 s35 :=
  T.ctp (F := ⟨c35, []⟩) (fuel := 250) vc35 Try.checked.mixed hs ht hg hC hk Try.func35 I M (fun xs ls h1 h2 h3 => ⟨hi xs ls h1 h3, h2⟩) fun xs ls hx hl hp => by
    match xs, ls, hx, hl, hp with
    | [v0, v1, v2, v3, v4, v5, v6, v7], [], hx, hl, hp => rw [q35]; exact h v0 v1 v2 v3 v4 v5 v6 v7 hx hl hp
/-- loop.example/g01242/impl.ValueOfDigits$1 -/
def s34 : Sig := ⟨[.ptr [.b, .i .u32, .i .u32, .i .u32, .i .u32, .i .u32, .i .u32], .plsts [[.i8]]], [(false, [.i .i64]), (true, [.b, .i .u32, .i .u32, .i .u32, .i .u32, .i .u32, .i .u32])], false⟩
noncomputable def c34 : Cfg := ⟨Try.prog, [(35, s35)], [], [], [], [], [], [35], 77, []⟩
def iv34 : List Iv := [⟨0, 1⟩, ⟨0, 4294967295⟩, ⟨0, 4294967295⟩, ⟨0, 4294967295⟩, ⟨0, 4294967295⟩, ⟨0, 4294967295⟩, ⟨0, 4294967295⟩]
def t34 : VC :=
 (.loop 0 [(.lit 0), (.ite (.eq (.var 0) (.lit 1)) (.lit 1) (.lit 0)), (.var 1), (.var 2), (.var 3), (.var 4), (.var 5), (.var 6)] [] [⟨(-9223372036854775808), 9223372036854775807⟩, ⟨0, 1⟩, ⟨0, 4294967295⟩, ⟨0, 4294967295⟩, ⟨0, 4294967295⟩, ⟨0, 4294967295⟩, ⟨0, 4294967295⟩, ⟨0, 4294967295⟩] []
  (.ite (.lt (.var 7) (.len (.var 0)))
   (.need [(.b (.le (.lit 0) (.var 7))), (.b (.lt (.var 7) (.len (.var 0))))]
   (.need [(.b (.lt (.add (.lit 0) (.var 7)) (.len (.var 0))))]
   (.bind (.at (.var 0) (.add (.lit 0) (.var 7)))
   (.need [(.pre 35 (.e (.var 8) (.e (.var 9) (.e (.var 10) (.e (.var 11) (.e (.var 12) (.e (.var 13) (.e (.var 14) (.e (.var 15) .nil)))))))))]
   (.call 35 (.e (.var 8) (.e (.var 9) (.e (.var 10) (.e (.var 11) (.e (.var 12) (.e (.var 13) (.e (.var 14) (.e (.var 15) .nil)))))))) 8
   (.ite (.eq (.var 16) (.lit 0))
    (.again 0 7 1 [⟨(-9223372036854775808), 9223372036854775807⟩, ⟨0, 1⟩, ⟨0, 4294967295⟩, ⟨0, 4294967295⟩, ⟨0, 4294967295⟩, ⟨0, 4294967295⟩, ⟨0, 4294967295⟩, ⟨0, 4294967295⟩] [(.wrap .i64 (.add (.var 7) (.lit 1))), (.ite (.eq (.var 17) (.lit 1)) (.lit 1) (.lit 0)), (.var 18), (.var 19), (.var 20), (.var 21), (.var 22), (.var 23)] [])
    (.need [(.b (.not (.eq (.var 16) (.lit 0))))]
    (.fin (.e (.var 16) (.e (.lit 0) (.e (.lit 0) (.e (.lit 0) (.e (.lit 0) (.e (.lit 0) (.e (.lit 0) (.e (.lit 0) .nil))))))))))))))))
   (.fin (.e (.lit 0) (.e (.var 8) (.e (.var 9) (.e (.var 10) (.e (.var 11) (.e (.var 12) (.e (.var 13) (.e (.var 14) .nil)))))))))))
theorem vc34 : vcPf ⟨c34, [(3, ⟨0, [9], [4], [10, 11, 12, 5, 13, 14, 15, 16], [⟨(-9223372036854775808), 9223372036854775807⟩, ⟨0, 1⟩, ⟨0, 4294967295⟩, ⟨0, 4294967295⟩, ⟨0, 4294967295⟩, ⟨0, 4294967295⟩, ⟨0, 4294967295⟩, ⟨0, 4294967295⟩], [], []⟩)]⟩ c34.pty iv34 (parLvs s34.params) 250 Try.f34 s34 = t34 := by kernel_rfl
set_option linter.unusedVariables false in
def p34 (T : Tab) (I : Nat → Env → Env → Prop) (M : Nat → Env → Env → Nat) (pre : Nat → List Int → List (List Int) → Prop) (post : List Int → List (List Int) → Prop) (v0 v1 v2 v3 v4 v5 v6 : Int) (l0 : List Int) : Prop :=
 ((allHas [⟨(-9223372036854775808), 9223372036854775807⟩, ⟨0, 1⟩, ⟨0, 4294967295⟩, ⟨0, 4294967295⟩, ⟨0, 4294967295⟩, ⟨0, 4294967295⟩, ⟨0, 4294967295⟩, ⟨0, 4294967295⟩] [0, (if decide ((v0 : Int) = 1) = true then 1 else 0), v1, v2, v3, v4, v5, v6] ∧ I 0 ⟨[v0, v1, v2, v3, v4, v5, v6], [l0]⟩ ⟨[0, (if decide ((v0 : Int) = 1) = true then 1 else 0), v1, v2, v3, v4, v5, v6], []⟩) ∧ ∀ v7 v8 v9 v10 v11 v12 v13 v14 : Int, allHas [⟨(-9223372036854775808), 9223372036854775807⟩, ⟨0, 1⟩, ⟨0, 4294967295⟩, ⟨0, 4294967295⟩, ⟨0, 4294967295⟩, ⟨0, 4294967295⟩, ⟨0, 4294967295⟩, ⟨0, 4294967295⟩] [v7, v8, v9, v10, v11, v12, v13, v14] → I 0 ⟨[v0, v1, v2, v3, v4, v5, v6], [l0]⟩ ⟨[v7, v8, v9, v10, v11, v12, v13, v14], []⟩ →
  ((decide ((v7 : Int) < (List.length l0 : Int)) = true →
   ((decide ((0 : Int) ≤ v7) = true ∧ decide ((v7 : Int) < (List.length l0 : Int)) = true) ∧ ((decide ((0 : Int) ≤ v7) = true ∧ decide ((v7 : Int) < (List.length l0 : Int)) = true) →
   ((decide (((0 + v7) : Int) < (List.length l0 : Int)) = true) ∧ ((decide (((0 + v7) : Int) < (List.length l0 : Int)) = true) →
   ∀ v15 : Int, v15 = (List.getD l0 (Int.toNat (0 + v7)) 0) →
   ((pre 35 [v8, v9, v10, v11, v12, v13, v14, v15] []) ∧ ((pre 35 [v8, v9, v10, v11, v12, v13, v14, v15] []) →
   ∀ v16 v17 v18 v19 v20 v21 v22 v23 : Int, [v16, v17, v18, v19, v20, v21, v22, v23] = T.out 35 8 [v8, v9, v10, v11, v12, v13, v14, v15] →
   ((decide ((v16 : Int) = 0) = true →
    (allHas [⟨(-9223372036854775808), 9223372036854775807⟩, ⟨0, 1⟩, ⟨0, 4294967295⟩, ⟨0, 4294967295⟩, ⟨0, 4294967295⟩, ⟨0, 4294967295⟩, ⟨0, 4294967295⟩, ⟨0, 4294967295⟩] [(IntKind.wrap .i64 (v7 + 1)), (if decide ((v17 : Int) = 1) = true then 1 else 0), v18, v19, v20, v21, v22, v23] ∧ I 0 ⟨[v0, v1, v2, v3, v4, v5, v6], [l0]⟩ ⟨[(IntKind.wrap .i64 (v7 + 1)), (if decide ((v17 : Int) = 1) = true then 1 else 0), v18, v19, v20, v21, v22, v23], []⟩ ∧ M 0 ⟨[v0, v1, v2, v3, v4, v5, v6], [l0]⟩ ⟨[(IntKind.wrap .i64 (v7 + 1)), (if decide ((v17 : Int) = 1) = true then 1 else 0), v18, v19, v20, v21, v22, v23], []⟩ < M 0 ⟨[v0, v1, v2, v3, v4, v5, v6], [l0]⟩ ⟨[v7, v8, v9, v10, v11, v12, v13, v14], []⟩)) ∧ (decide ((v16 : Int) = 0) = false →
    (((!decide ((v16 : Int) = 0)) = true) ∧ (((!decide ((v16 : Int) = 0)) = true) →
    post [v16, 0, 0, 0, 0, 0, 0, 0] []))))))))))) ∧ (decide ((v7 : Int) < (List.length l0 : Int)) = false →
   post [0, v8, v9, v10, v11, v12, v13, v14] [])))
theorem q34 (T : Tab) (I : Nat → Env → Env → Prop) (M : Nat → Env → Env → Nat) (pre : Nat → List Int → List (List Int) → Prop) (post : List Int → List (List Int) → Prop) (v0 v1 v2 v3 v4 v5 v6 : Int) (l0 : List Int) : t34.plain T (presG pre I M) post ⟨[v0, v1, v2, v3, v4, v5, v6], [l0]⟩ = p34 T I M pre post v0 v1 v2 v3 v4 v5 v6 l0 := by kernel_rfl
theorem k34 (T : Tab) (I : Nat → Env → Env → Prop) (M : Nat → Env → Env → Nat) (pre : Nat → List Int → List (List Int) → Prop) (hs : SubSig T c34.sigs) (ht : TotG pre c34.sigs) (hg : T.sig 34 = some s34) (hC : CtAll Try.prog T.fns (presQ pre) c34.pfs c34.pty c34.cls c34.sigs) (hk : CpAll Try.prog c34.cps) (hi : ∀ xs ls, allHas (parIvs s34.params) xs → pre 34 xs ls → allHas iv34 xs)
    (h : ∀ (v0 v1 v2 v3 v4 v5 v6 : Int) (l0 : List Int), allHas iv34 [v0, v1, v2, v3, v4, v5, v6] → allL (parLvs s34.params) [l0] → pre 34 [v0, v1, v2, v3, v4, v5, v6] [l0] → p34 T I M pre (fun ys _ => ys = T.app 34 [v0, v1, v2, v3, v4, v5, v6] [l0]) v0 v1 v2 v3 v4 v5 v6 l0) : CTP Try.prog T.fns (presQ pre) c34.pty 34 s34 :=
  T.ctp (F := ⟨c34, [(3, ⟨0, [9], [4], [10, 11, 12, 5, 13, 14, 15, 16], [⟨(-9223372036854775808), 9223372036854775807⟩, ⟨0, 1⟩, ⟨0, 4294967295⟩, ⟨0, 4294967295⟩, ⟨0, 4294967295⟩, ⟨0, 4294967295⟩, ⟨0, 4294967295⟩, ⟨0, 4294967295⟩], [], []⟩)]⟩) (fuel := 250) vc34 Try.checked.mixed hs ht hg hC hk Try.func34 I M (fun xs ls h1 h2 h3 => ⟨hi xs ls h1 h3, h2⟩) fun xs ls hx hl hp => by
    match xs, ls, hx, hl, hp with
    | [v0, v1, v2, v3, v4, v5, v6], [l0], hx, hl, hp => rw [q34]; exact h v0 v1 v2 v3 v4 v5 v6 l0 hx hl hp
/-- loop.example/g01242/impl.settle[loop.example/g01242/impl.Wide] -/
def s33 : Sig := ⟨[.ptr [.b, .i .u32, .i .u32, .i .u32, .i .u32, .i .u32, .i .u32], .plsts [[.i8]]], [(true, [.b, .i .u32, .i .u32, .i .u32, .i .u32, .i .u32, .i .u32]), (false, [.i .i64])], false⟩
/-- loop.example/g01242/impl.ValueOfDigits -/
def s10 : Sig := ⟨[.val true [.b, .i .u32, .i .u32, .i .u32, .i .u32, .i .u32, .i .u32], .lst [.i8]], [(true, [.b, .i .u32, .i .u32, .i .u32, .i .u32, .i .u32, .i .u32]), (false, [.i .i64])], true⟩
noncomputable def c10 : Cfg := ⟨Try.prog, [(21, s21), (31, s31), (33, s33)], [], [], [], [], [], [], 77, [(33, 34)]⟩
def iv10 : List Iv := [⟨0, 1⟩, ⟨0, 4294967295⟩, ⟨0, 4294967295⟩, ⟨0, 4294967295⟩, ⟨0, 4294967295⟩, ⟨0, 4294967295⟩, ⟨0, 4294967295⟩]
def t10 : VC :=
 (.call 21 (.e (.var 0) (.e (.var 1) (.e (.var 2) (.e (.var 3) (.e (.var 4) (.e (.var 5) (.e (.var 6) .nil))))))) 1
 (.ite (.eq (.var 7) (.lit 1))
  (.call 31 (.l (.var 0) .nil) 1
  (.ite (.eq (.var 8) (.lit 1))
   (.fin (.e (.lit 0) (.e (.lit 0) (.e (.lit 0) (.e (.lit 0) (.e (.lit 0) (.e (.lit 0) (.e (.lit 0) (.e (.lit 1) .nil)))))))))
   (.ite (.lt (.lit 64) (.len (.var 0)))
    (.fin (.e (.lit 0) (.e (.lit 0) (.e (.lit 0) (.e (.lit 0) (.e (.lit 0) (.e (.lit 0) (.e (.lit 0) (.e (.lit 2) .nil)))))))))
    (.need [(.pre 33 (.e (.var 0) (.e (.var 1) (.e (.var 2) (.e (.var 3) (.e (.var 4) (.e (.var 5) (.e (.var 6) (.l (.var 0) .nil)))))))))]
    (.call 33 (.e (.var 0) (.e (.var 1) (.e (.var 2) (.e (.var 3) (.e (.var 4) (.e (.var 5) (.e (.var 6) (.l (.var 0) .nil)))))))) 8
    (.fin (.e (.var 9) (.e (.var 10) (.e (.var 11) (.e (.var 12) (.e (.var 13) (.e (.var 14) (.e (.var 15) (.e (.var 16) .nil))))))))))))))
  (.fin (.e (.lit 0) (.e (.lit 0) (.e (.lit 0) (.e (.lit 0) (.e (.lit 0) (.e (.lit 0) (.e (.lit 0) (.e (.lit 1) .nil)))))))))))
theorem vc10 : vcOfI ⟨c10, []⟩ iv10 (parLvs s10.params) 250 Try.f10 s10 = t10 := by kernel_rfl
set_option linter.unusedVariables false in
def p10 (T : Tab) (I : Nat → Env → Env → Prop) (M : Nat → Env → Env → Nat) (pre : Nat → List Int → List (List Int) → Prop) (post : List Int → List (List Int) → Prop) (v0 v1 v2 v3 v4 v5 v6 : Int) (l0 : List Int) : Prop :=
 ∀ v7 : Int, [v7] = T.out 21 1 [v0, v1, v2, v3, v4, v5, v6] →
 ((decide ((v7 : Int) = 1) = true →
  ∀ v8 : Int, [v8] = T.outL 31 1 [] [l0] →
  ((decide ((v8 : Int) = 1) = true →
   post [0, 0, 0, 0, 0, 0, 0, 1] []) ∧ (decide ((v8 : Int) = 1) = false →
   ((decide ((64 : Int) < (List.length l0 : Int)) = true →
    post [0, 0, 0, 0, 0, 0, 0, 2] []) ∧ (decide ((64 : Int) < (List.length l0 : Int)) = false →
    ((pre 33 [v0, v1, v2, v3, v4, v5, v6] [l0]) ∧ ((pre 33 [v0, v1, v2, v3, v4, v5, v6] [l0]) →
    ∀ v9 v10 v11 v12 v13 v14 v15 v16 : Int, [v9, v10, v11, v12, v13, v14, v15, v16] = T.outL 33 8 [v0, v1, v2, v3, v4, v5, v6] [l0] →
    post [v9, v10, v11, v12, v13, v14, v15, v16] []))))))) ∧ (decide ((v7 : Int) = 1) = false →
  post [0, 0, 0, 0, 0, 0, 0, 1] []))
theorem q10 (T : Tab) (I : Nat → Env → Env → Prop) (M : Nat → Env → Env → Nat) (pre : Nat → List Int → List (List Int) → Prop) (post : List Int → List (List Int) → Prop) (v0 v1 v2 v3 v4 v5 v6 : Int) (l0 : List Int) : t10.plain T (presG pre I M) post ⟨[v0, v1, v2, v3, v4, v5, v6], [l0]⟩ = p10 T I M pre post v0 v1 v2 v3 v4 v5 v6 l0 := by kernel_rfl
theorem k10 (T : Tab) (I : Nat → Env → Env → Prop) (M : Nat → Env → Env → Nat) (pre : Nat → List Int → List (List Int) → Prop) (hs : SubSig T c10.sigs) (ht : TotG pre c10.sigs) (hg : T.sig 10 = some s10) (hC : CtAll Try.prog T.fns (presQ pre) c10.pfs c10.pty c10.cls c10.sigs) (hk : CpAll Try.prog c10.cps) (hi : ∀ xs ls, allHas (parIvs s10.params) xs → pre 10 xs ls → allHas iv10 xs)
    (h : ∀ (v0 v1 v2 v3 v4 v5 v6 : Int) (l0 : List Int), allHas iv10 [v0, v1, v2, v3, v4, v5, v6] → allL (parLvs s10.params) [l0] → pre 10 [v0, v1, v2, v3, v4, v5, v6] [l0] → p10 T I M pre (fun ys _ => ys = T.app 10 [v0, v1, v2, v3, v4, v5, v6] [l0]) v0 v1 v2 v3 v4 v5 v6 l0) : CT Try.prog T.fns (presQ pre) 10 s10 :=
  T.ctg (F := ⟨c10, []⟩) (fuel := 250) vc10 Try.checked.mixed hs ht hg hC hk Try.func10 I M (fun xs ls h1 h2 h3 => ⟨hi xs ls h1 h3, h2⟩) fun xs ls hx hl hp => by
    match xs, ls, hx, hl, hp with
    | [v0, v1, v2, v3, v4, v5, v6], [l0], hx, hl, hp => rw [q10]; exact h v0 v1 v2 v3 v4 v5 v6 l0 hx hl hp
/-- loop.example/g01242/spec.l02Next -/
def s30 : Sig := ⟨[.val true [.b, .i .u32, .i .u32, .i .u32, .i .u32, .i .u32, .i .u32], .val false [.i .i64]], [(true, [.b, .i .u32, .i .u32, .i .u32, .i .u32, .i .u32, .i .u32]), (false, [.i .i64])], true⟩
noncomputable def c30 : Cfg := ⟨Try.prog, [(16, s16), (18, s18)], [], [], [], [], [], [], 77, []⟩
def iv30 : List Iv := [⟨0, 1⟩, ⟨0, 4294967295⟩, ⟨0, 4294967295⟩, ⟨0, 4294967295⟩, ⟨0, 4294967295⟩, ⟨0, 4294967295⟩, ⟨0, 4294967295⟩, ⟨(-9223372036854775808), 9223372036854775807⟩]
def t30 : VC :=
 (.call 16 (.e (.var 0) (.e (.var 1) (.e (.var 2) (.e (.var 3) (.e (.var 4) (.e (.var 5) (.e (.var 6) (.e (.var 0) (.e (.var 1) (.e (.var 2) (.e (.var 3) (.e (.var 4) (.e (.var 5) (.e (.var 6) .nil)))))))))))))) 8
 (.ite (.not (.eq (.var 15) (.lit 0)))
  (.fin (.e (.lit 0) (.e (.lit 0) (.e (.lit 0) (.e (.lit 0) (.e (.lit 0) (.e (.lit 0) (.e (.lit 0) (.e (.var 15) .nil)))))))))
  (.call 18 (.e (.var 7) .nil) 7
  (.call 16 (.e (.var 8) (.e (.var 9) (.e (.var 10) (.e (.var 11) (.e (.var 12) (.e (.var 13) (.e (.var 14) (.e (.var 16) (.e (.var 17) (.e (.var 18) (.e (.var 19) (.e (.var 20) (.e (.var 21) (.e (.var 22) .nil)))))))))))))) 8
  (.fin (.e (.var 23) (.e (.var 24) (.e (.var 25) (.e (.var 26) (.e (.var 27) (.e (.var 28) (.e (.var 29) (.e (.var 30) .nil)))))))))))))
theorem vc30 : vcOfI ⟨c30, []⟩ iv30 (parLvs s30.params) 250 Try.f30 s30 = t30 := by kernel_rfl
set_option linter.unusedVariables false in
def p30 (T : Tab) (I : Nat → Env → Env → Prop) (M : Nat → Env → Env → Nat) (pre : Nat → List Int → List (List Int) → Prop) (post : List Int → List (List Int) → Prop) (v0 v1 v2 v3 v4 v5 v6 v7 : Int) : Prop :=
 ∀ v8 v9 v10 v11 v12 v13 v14 v15 : Int, [v8, v9, v10, v11, v12, v13, v14, v15] = T.out 16 8 [v0, v1, v2, v3, v4, v5, v6, v0, v1, v2, v3, v4, v5, v6] →
 (((!decide ((v15 : Int) = 0)) = true →
  post [0, 0, 0, 0, 0, 0, 0, v15] []) ∧ ((!decide ((v15 : Int) = 0)) = false →
  ∀ v16 v17 v18 v19 v20 v21 v22 : Int, [v16, v17, v18, v19, v20, v21, v22] = T.out 18 7 [v7] →
  ∀ v23 v24 v25 v26 v27 v28 v29 v30 : Int, [v23, v24, v25, v26, v27, v28, v29, v30] = T.out 16 8 [v8, v9, v10, v11, v12, v13, v14, v16, v17, v18, v19, v20, v21, v22] →
  post [v23, v24, v25, v26, v27, v28, v29, v30] []))
theorem q30 (T : Tab) (I : Nat → Env → Env → Prop) (M : Nat → Env → Env → Nat) (pre : Nat → List Int → List (List Int) → Prop) (post : List Int → List (List Int) → Prop) (v0 v1 v2 v3 v4 v5 v6 v7 : Int) : t30.plain T (presG pre I M) post ⟨[v0, v1, v2, v3, v4, v5, v6, v7], []⟩ = p30 T I M pre post v0 v1 v2 v3 v4 v5 v6 v7 := by kernel_rfl
theorem k30 (T : Tab) (I : Nat → Env → Env → Prop) (M : Nat → Env → Env → Nat) (pre : Nat → List Int → List (List Int) → Prop) (hs : SubSig T c30.sigs) (ht : TotG pre c30.sigs) (hg : T.sig 30 = some s30) (hC : CtAll Try.prog T.fns (presQ pre) c30.pfs c30.pty c30.cls c30.sigs) (hk : CpAll Try.prog c30.cps) (hi : ∀ xs ls, allHas (parIvs s30.params) xs → pre 30 xs ls → allHas iv30 xs)
    (h : ∀ (v0 v1 v2 v3 v4 v5 v6 v7 : Int), allHas iv30 [v0, v1, v2, v3, v4, v5, v6, v7] → allL (parLvs s30.params) [] → pre 30 [v0, v1, v2, v3, v4, v5, v6, v7] [] → p30 T I M pre (fun ys _ => ys = T.app 30 [v0, v1, v2, v3, v4, v5, v6, v7] []) v0 v1 v2 v3 v4 v5 v6 v7) : CT Try.prog T.fns (presQ pre) 30 s30 :=
  T.ctg (F := ⟨c30, []⟩) (fuel := 250) vc30 Try.checked.mixed hs ht hg hC hk Try.func30 I M (fun xs ls h1 h2 h3 => ⟨hi xs ls h1 h3, h2⟩) fun xs ls hx hl hp => by
    match xs, ls, hx, hl, hp with
    | [v0, v1, v2, v3, v4, v5, v6, v7], [], hx, hl, hp => rw [q30]; exact h v0 v1 v2 v3 v4 v5 v6 v7 hx hl hp
/-- loop.example/g01242/spec.ValueOfDigits -/
def s8 : Sig := ⟨[.val true [.b, .i .u32, .i .u32, .i .u32, .i .u32, .i .u32, .i .u32], .lst [.i8]], [(true, [.b, .i .u32, .i .u32, .i .u32, .i .u32, .i .u32, .i .u32]), (false, [.i .i64])], true⟩
noncomputable def c8 : Cfg := ⟨Try.prog, [(13, s13), (30, s30)], [], [], [], [], [], [], 77, []⟩
def iv8 : List Iv := [⟨0, 1⟩, ⟨0, 4294967295⟩, ⟨0, 4294967295⟩, ⟨0, 4294967295⟩, ⟨0, 4294967295⟩, ⟨0, 4294967295⟩, ⟨0, 4294967295⟩]
def t8 : VC :=
 (.call 13 (.e (.var 0) (.e (.var 1) (.e (.var 2) (.e (.var 3) (.e (.var 4) (.e (.var 5) (.e (.var 6) .nil))))))) 1
 (.loop 0 [(.ite (.eq (.var 7) (.lit 1)) (.lit 1) (.lit 0)), (.lit 0)] [] [⟨0, 1⟩, ⟨(-9223372036854775808), 9223372036854775807⟩] []
  (.ite (.lt (.var 9) (.len (.var 0)))
   (.ite (.eq (.var 8) (.lit 1))
    (.need [(.b (.le (.lit 0) (.var 9))), (.b (.lt (.var 9) (.len (.var 0))))]
    (.need [(.b (.lt (.add (.lit 0) (.var 9)) (.len (.var 0))))]
    (.bind (.at (.var 0) (.add (.lit 0) (.var 9)))
    (.ite (.le (.lit (-1)) (.var 10))
     (.need [(.b (.le (.lit 0) (.var 9))), (.b (.lt (.var 9) (.len (.var 0))))]
     (.need [(.b (.lt (.add (.lit 0) (.var 9)) (.len (.var 0))))]
     (.bind (.at (.var 0) (.add (.lit 0) (.var 9)))
     (.bind (.wrap .i64 (.add (.var 9) (.lit 1)))
     (.again 0 8 1 [⟨0, 1⟩, ⟨(-9223372036854775808), 9223372036854775807⟩] [(.ite (.le (.var 11) (.lit 1)) (.lit 1) (.lit 0)), (.var 12)] [])))))
     (.bind (.wrap .i64 (.add (.var 9) (.lit 1)))
     (.again 0 8 1 [⟨0, 1⟩, ⟨(-9223372036854775808), 9223372036854775807⟩] [(.lit 0), (.var 11)] []))))))
    (.fin (.e (.lit 0) (.e (.lit 0) (.e (.lit 0) (.e (.lit 0) (.e (.lit 0) (.e (.lit 0) (.e (.lit 0) (.e (.lit 1) .nil))))))))))
   (.ite (.not (.eq (.var 8) (.lit 1)))
    (.fin (.e (.lit 0) (.e (.lit 0) (.e (.lit 0) (.e (.lit 0) (.e (.lit 0) (.e (.lit 0) (.e (.lit 0) (.e (.lit 1) .nil)))))))))
    (.ite (.lt (.lit 64) (.len (.var 0)))
     (.fin (.e (.lit 0) (.e (.lit 0) (.e (.lit 0) (.e (.lit 0) (.e (.lit 0) (.e (.lit 0) (.e (.lit 0) (.e (.lit 2) .nil)))))))))
     (.loop 1 [(.lit 0), (.ite (.eq (.var 0) (.lit 1)) (.lit 1) (.lit 0)), (.var 1), (.var 2), (.var 3), (.var 4), (.var 5), (.var 6)] [] [⟨(-9223372036854775808), 9223372036854775807⟩, ⟨0, 1⟩, ⟨0, 4294967295⟩, ⟨0, 4294967295⟩, ⟨0, 4294967295⟩, ⟨0, 4294967295⟩, ⟨0, 4294967295⟩, ⟨0, 4294967295⟩] []
      (.ite (.lt (.var 10) (.len (.var 0)))
       (.need [(.b (.le (.lit 0) (.var 10))), (.b (.lt (.var 10) (.len (.var 0)))), (.b (.lt (.add (.lit 0) (.var 10)) (.len (.var 0))))]
       (.call 30 (.e (.var 11) (.e (.var 12) (.e (.var 13) (.e (.var 14) (.e (.var 15) (.e (.var 16) (.e (.var 17) (.e (.at (.var 0) (.add (.lit 0) (.var 10))) .nil)))))))) 8
       (.bind (.at (.var 0) (.add (.lit 0) (.var 10)))
       (.ite (.not (.eq (.var 25) (.lit 0)))
        (.fin (.e (.lit 0) (.e (.lit 0) (.e (.lit 0) (.e (.lit 0) (.e (.lit 0) (.e (.lit 0) (.e (.lit 0) (.e (.var 25) .nil)))))))))
        (.bind (.wrap .i64 (.add (.var 10) (.lit 1)))
        (.again 1 10 1 [⟨(-9223372036854775808), 9223372036854775807⟩, ⟨0, 1⟩, ⟨0, 4294967295⟩, ⟨0, 4294967295⟩, ⟨0, 4294967295⟩, ⟨0, 4294967295⟩, ⟨0, 4294967295⟩, ⟨0, 4294967295⟩] [(.var 27), (.ite (.eq (.var 18) (.lit 1)) (.lit 1) (.lit 0)), (.var 19), (.var 20), (.var 21), (.var 22), (.var 23), (.var 24)] []))))))
       (.fin (.e (.var 11) (.e (.var 12) (.e (.var 13) (.e (.var 14) (.e (.var 15) (.e (.var 16) (.e (.var 17) (.e (.lit 0) .nil))))))))))))))))
theorem vc8 : vcOfI ⟨c8, [(12, ⟨1, [9], [3], [42, 43, 44, 45, 49, 50, 51, 52, 53, 54, 55, 48, 56, 57, 10, 11, 58, 59, 60, 61, 5, 62, 46, 47, 24, 30], [⟨(-9223372036854775808), 9223372036854775807⟩, ⟨0, 1⟩, ⟨0, 4294967295⟩, ⟨0, 4294967295⟩, ⟨0, 4294967295⟩, ⟨0, 4294967295⟩, ⟨0, 4294967295⟩, ⟨0, 4294967295⟩], [], []⟩), (3, ⟨0, [6, 7], [], [13, 14, 15, 16, 17, 18, 19, 22, 23, 24, 25, 26, 27, 28, 29, 30, 31, 32, 33, 20, 21, 52, 48, 55], [⟨0, 1⟩, ⟨(-9223372036854775808), 9223372036854775807⟩], [], []⟩)]⟩ iv8 (parLvs s8.params) 250 Try.f8 s8 = t8 := by kernel_rfl
set_option linter.unusedVariables false in
def p8 (T : Tab) (I : Nat → Env → Env → Prop) (M : Nat → Env → Env → Nat) (pre : Nat → List Int → List (List Int) → Prop) (post : List Int → List (List Int) → Prop) (v0 v1 v2 v3 v4 v5 v6 : Int) (l0 : List Int) : Prop :=
 ∀ v7 : Int, [v7] = T.out 13 1 [v0, v1, v2, v3, v4, v5, v6] →
 ((allHas [⟨0, 1⟩, ⟨(-9223372036854775808), 9223372036854775807⟩] [(if decide ((v7 : Int) = 1) = true then 1 else 0), 0] ∧ I 0 ⟨[v0, v1, v2, v3, v4, v5, v6, v7], [l0]⟩ ⟨[(if decide ((v7 : Int) = 1) = true then 1 else 0), 0], []⟩) ∧ ∀ v8 v9 : Int, allHas [⟨0, 1⟩, ⟨(-9223372036854775808), 9223372036854775807⟩] [v8, v9] → I 0 ⟨[v0, v1, v2, v3, v4, v5, v6, v7], [l0]⟩ ⟨[v8, v9], []⟩ →
  ((decide ((v9 : Int) < (List.length l0 : Int)) = true →
   ((decide ((v8 : Int) = 1) = true →
    ((decide ((0 : Int) ≤ v9) = true ∧ decide ((v9 : Int) < (List.length l0 : Int)) = true) ∧ ((decide ((0 : Int) ≤ v9) = true ∧ decide ((v9 : Int) < (List.length l0 : Int)) = true) →
    ((decide (((0 + v9) : Int) < (List.length l0 : Int)) = true) ∧ ((decide (((0 + v9) : Int) < (List.length l0 : Int)) = true) →
    ∀ v10 : Int, v10 = (List.getD l0 (Int.toNat (0 + v9)) 0) →
    ((decide (((-1) : Int) ≤ v10) = true →
     ((decide ((0 : Int) ≤ v9) = true ∧ decide ((v9 : Int) < (List.length l0 : Int)) = true) ∧ ((decide ((0 : Int) ≤ v9) = true ∧ decide ((v9 : Int) < (List.length l0 : Int)) = true) →
     ((decide (((0 + v9) : Int) < (List.length l0 : Int)) = true) ∧ ((decide (((0 + v9) : Int) < (List.length l0 : Int)) = true) →
     ∀ v11 : Int, v11 = (List.getD l0 (Int.toNat (0 + v9)) 0) →
     ∀ v12 : Int, v12 = (IntKind.wrap .i64 (v9 + 1)) →
     (allHas [⟨0, 1⟩, ⟨(-9223372036854775808), 9223372036854775807⟩] [(if decide ((v11 : Int) ≤ 1) = true then 1 else 0), v12] ∧ I 0 ⟨[v0, v1, v2, v3, v4, v5, v6, v7], [l0]⟩ ⟨[(if decide ((v11 : Int) ≤ 1) = true then 1 else 0), v12], []⟩ ∧ M 0 ⟨[v0, v1, v2, v3, v4, v5, v6, v7], [l0]⟩ ⟨[(if decide ((v11 : Int) ≤ 1) = true then 1 else 0), v12], []⟩ < M 0 ⟨[v0, v1, v2, v3, v4, v5, v6, v7], [l0]⟩ ⟨[v8, v9], []⟩)))))) ∧ (decide (((-1) : Int) ≤ v10) = false →
     ∀ v11 : Int, v11 = (IntKind.wrap .i64 (v9 + 1)) →
     (allHas [⟨0, 1⟩, ⟨(-9223372036854775808), 9223372036854775807⟩] [0, v11] ∧ I 0 ⟨[v0, v1, v2, v3, v4, v5, v6, v7], [l0]⟩ ⟨[0, v11], []⟩ ∧ M 0 ⟨[v0, v1, v2, v3, v4, v5, v6, v7], [l0]⟩ ⟨[0, v11], []⟩ < M 0 ⟨[v0, v1, v2, v3, v4, v5, v6, v7], [l0]⟩ ⟨[v8, v9], []⟩)))))))) ∧ (decide ((v8 : Int) = 1) = false →
    post [0, 0, 0, 0, 0, 0, 0, 1] []))) ∧ (decide ((v9 : Int) < (List.length l0 : Int)) = false →
   (((!decide ((v8 : Int) = 1)) = true →
    post [0, 0, 0, 0, 0, 0, 0, 1] []) ∧ ((!decide ((v8 : Int) = 1)) = false →
    ((decide ((64 : Int) < (List.length l0 : Int)) = true →
     post [0, 0, 0, 0, 0, 0, 0, 2] []) ∧ (decide ((64 : Int) < (List.length l0 : Int)) = false →
     ((allHas [⟨(-9223372036854775808), 9223372036854775807⟩, ⟨0, 1⟩, ⟨0, 4294967295⟩, ⟨0, 4294967295⟩, ⟨0, 4294967295⟩, ⟨0, 4294967295⟩, ⟨0, 4294967295⟩, ⟨0, 4294967295⟩] [0, (if decide ((v0 : Int) = 1) = true then 1 else 0), v1, v2, v3, v4, v5, v6] ∧ I 1 ⟨[v0, v1, v2, v3, v4, v5, v6, v7, v8, v9], [l0]⟩ ⟨[0, (if decide ((v0 : Int) = 1) = true then 1 else 0), v1, v2, v3, v4, v5, v6], []⟩) ∧ ∀ v10 v11 v12 v13 v14 v15 v16 v17 : Int, allHas [⟨(-9223372036854775808), 9223372036854775807⟩, ⟨0, 1⟩, ⟨0, 4294967295⟩, ⟨0, 4294967295⟩, ⟨0, 4294967295⟩, ⟨0, 4294967295⟩, ⟨0, 4294967295⟩, ⟨0, 4294967295⟩] [v10, v11, v12, v13, v14, v15, v16, v17] → I 1 ⟨[v0, v1, v2, v3, v4, v5, v6, v7, v8, v9], [l0]⟩ ⟨[v10, v11, v12, v13, v14, v15, v16, v17], []⟩ →
      ((decide ((v10 : Int) < (List.length l0 : Int)) = true →
       ((decide ((0 : Int) ≤ v10) = true ∧ decide ((v10 : Int) < (List.length l0 : Int)) = true ∧ decide (((0 + v10) : Int) < (List.length l0 : Int)) = true) ∧ ((decide ((0 : Int) ≤ v10) = true ∧ decide ((v10 : Int) < (List.length l0 : Int)) = true ∧ decide (((0 + v10) : Int) < (List.length l0 : Int)) = true) →
       ∀ v18 v19 v20 v21 v22 v23 v24 v25 : Int, [v18, v19, v20, v21, v22, v23, v24, v25] = T.out 30 8 [v11, v12, v13, v14, v15, v16, v17, (List.getD l0 (Int.toNat (0 + v10)) 0)] →
       ∀ v26 : Int, v26 = (List.getD l0 (Int.toNat (0 + v10)) 0) →
       (((!decide ((v25 : Int) = 0)) = true →
        post [0, 0, 0, 0, 0, 0, 0, v25] []) ∧ ((!decide ((v25 : Int) = 0)) = false →
        ∀ v27 : Int, v27 = (IntKind.wrap .i64 (v10 + 1)) →
        (allHas [⟨(-9223372036854775808), 9223372036854775807⟩, ⟨0, 1⟩, ⟨0, 4294967295⟩, ⟨0, 4294967295⟩, ⟨0, 4294967295⟩, ⟨0, 4294967295⟩, ⟨0, 4294967295⟩, ⟨0, 4294967295⟩] [v27, (if decide ((v18 : Int) = 1) = true then 1 else 0), v19, v20, v21, v22, v23, v24] ∧ I 1 ⟨[v0, v1, v2, v3, v4, v5, v6, v7, v8, v9], [l0]⟩ ⟨[v27, (if decide ((v18 : Int) = 1) = true then 1 else 0), v19, v20, v21, v22, v23, v24], []⟩ ∧ M 1 ⟨[v0, v1, v2, v3, v4, v5, v6, v7, v8, v9], [l0]⟩ ⟨[v27, (if decide ((v18 : Int) = 1) = true then 1 else 0), v19, v20, v21, v22, v23, v24], []⟩ < M 1 ⟨[v0, v1, v2, v3, v4, v5, v6, v7, v8, v9], [l0]⟩ ⟨[v10, v11, v12, v13, v14, v15, v16, v17], []⟩)))))) ∧ (decide ((v10 : Int) < (List.length l0 : Int)) = false →
       post [v11, v12, v13, v14, v15, v16, v17, 0] []))))))))))
theorem q8 (T : Tab) (I : Nat → Env → Env → Prop) (M : Nat → Env → Env → Nat) (pre : Nat → List Int → List (List Int) → Prop) (post : List Int → List (List Int) → Prop) (v0 v1 v2 v3 v4 v5 v6 : Int) (l0 : List Int) : t8.plain T (presG pre I M) post ⟨[v0, v1, v2, v3, v4, v5, v6], [l0]⟩ = p8 T I M pre post v0 v1 v2 v3 v4 v5 v6 l0 := by kernel_rfl
theorem k8 (T : Tab) (I : Nat → Env → Env → Prop) (M : Nat → Env → Env → Nat) (pre : Nat → List Int → List (List Int) → Prop) (hs : SubSig T c8.sigs) (ht : TotG pre c8.sigs) (hg : T.sig 8 = some s8) (hC : CtAll Try.prog T.fns (presQ pre) c8.pfs c8.pty c8.cls c8.sigs) (hk : CpAll Try.prog c8.cps) (hi : ∀ xs ls, allHas (parIvs s8.params) xs → pre 8 xs ls → allHas iv8 xs)
    (h : ∀ (v0 v1 v2 v3 v4 v5 v6 : Int) (l0 : List Int), allHas iv8 [v0, v1, v2, v3, v4, v5, v6] → allL (parLvs s8.params) [l0] → pre 8 [v0, v1, v2, v3, v4, v5, v6] [l0] → p8 T I M pre (fun ys _ => ys = T.app 8 [v0, v1, v2, v3, v4, v5, v6] [l0]) v0 v1 v2 v3 v4 v5 v6 l0) : CT Try.prog T.fns (presQ pre) 8 s8 :=
  T.ctg (F := ⟨c8, [(12, ⟨1, [9], [3], [42, 43, 44, 45, 49, 50, 51, 52, 53, 54, 55, 48, 56, 57, 10, 11, 58, 59, 60, 61, 5, 62, 46, 47, 24, 30], [⟨(-9223372036854775808), 9223372036854775807⟩, ⟨0, 1⟩, ⟨0, 4294967295⟩, ⟨0, 4294967295⟩, ⟨0, 4294967295⟩, ⟨0, 4294967295⟩, ⟨0, 4294967295⟩, ⟨0, 4294967295⟩], [], []⟩), (3, ⟨0, [6, 7], [], [13, 14, 15, 16, 17, 18, 19, 22, 23, 24, 25, 26, 27, 28, 29, 30, 31, 32, 33, 20, 21, 52, 48, 55], [⟨0, 1⟩, ⟨(-9223372036854775808), 9223372036854775807⟩], [], []⟩)]⟩) (fuel := 250) vc8 Try.checked.mixed hs ht hg hC hk Try.func8 I M (fun xs ls h1 h2 h3 => ⟨hi xs ls h1 h3, h2⟩) fun xs ls hx hl hp => by
    match xs, ls, hx, hl, hp with
    | [v0, v1, v2, v3, v4, v5, v6], [l0], hx, hl, hp => rw [q8]; exact h v0 v1 v2 v3 v4 v5 v6 l0 hx hl hp
/-- loop.example/g01242/laws.FnExactValueOfDigits -/
def s4 : Sig := ⟨[.val true [.b, .i .u32, .i .u32, .i .u32, .i .u32, .i .u32, .i .u32], .lst [.i8]], [(false, [.b])], true⟩
noncomputable def c4 : Cfg := ⟨Try.prog, [(6, s6), (8, s8), (10, s10), (11, s11), (12, s12)], [(9, s9, y9)], [], [], [], [], [], 77, []⟩
def iv4 : List Iv := [⟨0, 1⟩, ⟨0, 4294967295⟩, ⟨0, 4294967295⟩, ⟨0, 4294967295⟩, ⟨0, 4294967295⟩, ⟨0, 4294967295⟩, ⟨0, 4294967295⟩]
def t4 : VC :=
 (.ite (.lt (.lit 1048576) (.len (.var 0)))
  (.fin (.e (.lit 1) .nil))
  (.call 6 (.e (.var 0) (.e (.var 1) (.e (.var 2) (.e (.var 3) (.e (.var 4) (.e (.var 5) (.e (.var 6) .nil))))))) 7
  (.need [(.b (.le (.len (.var 0)) (.lit 1099511627776)))]
  (.call 8 (.e (.var 7) (.e (.var 8) (.e (.var 9) (.e (.var 10) (.e (.var 11) (.e (.var 12) (.e (.var 13) (.l (.var 0) .nil)))))))) 8
  (.need [(.b (.le (.len (.var 0)) (.lit 1099511627776)))]
  (.call 6 (.e (.var 0) (.e (.var 1) (.e (.var 2) (.e (.var 3) (.e (.var 4) (.e (.var 5) (.e (.var 6) .nil))))))) 7
  (.call 10 (.e (.var 22) (.e (.var 23) (.e (.var 24) (.e (.var 25) (.e (.var 26) (.e (.var 27) (.e (.var 28) (.l (.var 0) .nil)))))))) 8
  (.call 11 (.e (.var 29) (.e (.var 30) (.e (.var 31) (.e (.var 32) (.e (.var 33) (.e (.var 34) (.e (.var 35) (.e (.var 14) (.e (.var 15) (.e (.var 16) (.e (.var 17) (.e (.var 18) (.e (.var 19) (.e (.var 20) .nil)))))))))))))) 1
  (.ite (.eq (.var 37) (.lit 1))
   (.ite (.not (.eq (.var 36) (.var 21)))
    (.fin (.e (.lit 0) .nil))
    (.need [(.b (.le (.len (.var 0)) (.lit 1099511627776)))]
    (.call 12 (.l (.var 0) (.l (.var 0) .nil)) 1
    (.ite (.not (.eq (.var 38) (.lit 1)))
     (.fin (.e (.lit 0) .nil))
     (.fin (.e (.lit 1) .nil))))))
   (.fin (.e (.lit 0) .nil)))))))))))
theorem vc4 : vcOfI ⟨c4, []⟩ iv4 (parLvs s4.params) 250 Try.f4 s4 = t4 := by kernel_rfl
set_option linter.unusedVariables false in
def p4 (T : Tab) (I : Nat → Env → Env → Prop) (M : Nat → Env → Env → Nat) (pre : Nat → List Int → List (List Int) → Prop) (post : List Int → List (List Int) → Prop) (v0 v1 v2 v3 v4 v5 v6 : Int) (l0 : List Int) : Prop :=
 ((decide ((1048576 : Int) < (List.length l0 : Int)) = true →
  post [1] []) ∧ (decide ((1048576 : Int) < (List.length l0 : Int)) = false →
  ∀ v7 v8 v9 v10 v11 v12 v13 : Int, [v7, v8, v9, v10, v11, v12, v13] = T.out 6 7 [v0, v1, v2, v3, v4, v5, v6] →
  ((decide (((List.length l0 : Int) : Int) ≤ 1099511627776) = true) ∧ ((decide (((List.length l0 : Int) : Int) ≤ 1099511627776) = true) →
  ∀ v14 v15 v16 v17 v18 v19 v20 v21 : Int, [v14, v15, v16, v17, v18, v19, v20, v21] = T.outL 8 8 [v7, v8, v9, v10, v11, v12, v13] [l0] →
  ((decide (((List.length l0 : Int) : Int) ≤ 1099511627776) = true) ∧ ((decide (((List.length l0 : Int) : Int) ≤ 1099511627776) = true) →
  ∀ v22 v23 v24 v25 v26 v27 v28 : Int, [v22, v23, v24, v25, v26, v27, v28] = T.out 6 7 [v0, v1, v2, v3, v4, v5, v6] →
  ∀ v29 v30 v31 v32 v33 v34 v35 v36 : Int, [v29, v30, v31, v32, v33, v34, v35, v36] = T.outL 10 8 [v22, v23, v24, v25, v26, v27, v28] [l0] →
  ∀ v37 : Int, [v37] = T.out 11 1 [v29, v30, v31, v32, v33, v34, v35, v14, v15, v16, v17, v18, v19, v20] →
  ((decide ((v37 : Int) = 1) = true →
   (((!decide ((v36 : Int) = v21)) = true →
    post [0] []) ∧ ((!decide ((v36 : Int) = v21)) = false →
    ((decide (((List.length l0 : Int) : Int) ≤ 1099511627776) = true) ∧ ((decide (((List.length l0 : Int) : Int) ≤ 1099511627776) = true) →
    ∀ v38 : Int, [v38] = T.outL 12 1 [] [l0, l0] →
    (((!decide ((v38 : Int) = 1)) = true →
     post [0] []) ∧ ((!decide ((v38 : Int) = 1)) = false →
     post [1] []))))))) ∧ (decide ((v37 : Int) = 1) = false →
   post [0] []))))))))
theorem q4 (T : Tab) (I : Nat → Env → Env → Prop) (M : Nat → Env → Env → Nat) (pre : Nat → List Int → List (List Int) → Prop) (post : List Int → List (List Int) → Prop) (v0 v1 v2 v3 v4 v5 v6 : Int) (l0 : List Int) : t4.plain T (presG pre I M) post ⟨[v0, v1, v2, v3, v4, v5, v6], [l0]⟩ = p4 T I M pre post v0 v1 v2 v3 v4 v5 v6 l0 := by kernel_rfl
theorem k4 (T : Tab) (I : Nat → Env → Env → Prop) (M : Nat → Env → Env → Nat) (pre : Nat → List Int → List (List Int) → Prop) (hs : SubSig T c4.sigs) (ht : TotG pre c4.sigs) (hg : T.sig 4 = some s4) (hC : CtAll Try.prog T.fns (presQ pre) c4.pfs c4.pty c4.cls c4.sigs) (hk : CpAll Try.prog c4.cps) (hi : ∀ xs ls, allHas (parIvs s4.params) xs → pre 4 xs ls → allHas iv4 xs)
    (h : ∀ (v0 v1 v2 v3 v4 v5 v6 : Int) (l0 : List Int), allHas iv4 [v0, v1, v2, v3, v4, v5, v6] → allL (parLvs s4.params) [l0] → pre 4 [v0, v1, v2, v3, v4, v5, v6] [l0] → p4 T I M pre (fun ys _ => ys = T.app 4 [v0, v1, v2, v3, v4, v5, v6] [l0]) v0 v1 v2 v3 v4 v5 v6 l0) : CT Try.prog T.fns (presQ pre) 4 s4 :=
  T.ctg (F := ⟨c4, []⟩) (fuel := 250) vc4 Try.checked.mixed hs ht hg hC hk Try.func4 I M (fun xs ls h1 h2 h3 => ⟨hi xs ls h1 h3, h2⟩) fun xs ls hx hl hp => by
    match xs, ls, hx, hl, hp with
    | [v0, v1, v2, v3, v4, v5, v6], [l0], hx, hl, hp => rw [q4]; exact h v0 v1 v2 v3 v4 v5 v6 l0 hx hl hp
end Go.Proofs.Ytpghmmklbhobmaa.Sx
