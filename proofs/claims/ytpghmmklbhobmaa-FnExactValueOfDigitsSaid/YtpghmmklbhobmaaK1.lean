import Derived.Test.YtpghmmklbhobmaaSxX
import Derived.Test.YtpghmmklbhobmaaSxZ
import Derived.Test.YtpghmmklbhobmaaChecked
import Derived.KernelRfl
namespace Go.Proofs.Ytpghmmklbhobmaa.Sx
open Go Go.RowKit
/-- (loop.example/g01242/impl.limbs).isZero -/
def s46 : Sig := ⟨[.val true [.i .u32, .i .u32, .i .u32, .i .u32, .i .u32, .i .u32]], [(false, [.b])], true⟩
noncomputable def c46 : Cfg := ⟨Try.prog, [], [], [], [], [], [], [], 77, []⟩
def iv46 : List Iv := [⟨0, 4294967295⟩, ⟨0, 4294967295⟩, ⟨0, 4294967295⟩, ⟨0, 4294967295⟩, ⟨0, 4294967295⟩, ⟨0, 4294967295⟩]
def t46 : VC :=
 (.bind (.ite (.and (.eq (.var 0) (.lit 0)) (.and (.eq (.var 1) (.lit 0)) (.and (.eq (.var 2) (.lit 0)) (.and (.eq (.var 3) (.lit 0)) (.and (.eq (.var 4) (.lit 0)) (.eq (.var 5) (.lit 0))))))) (.lit 1) (.lit 0))
 (.fin (.e (.var 6) .nil)))
theorem vc46 : vcOfI ⟨c46, []⟩ iv46 (parLvs s46.params) 250 Try.f46 s46 = t46 := by kernel_rfl
set_option linter.unusedVariables false in
def p46 (T : Tab) (I : Nat → Env → Env → Prop) (M : Nat → Env → Env → Nat) (pre : Nat → List Int → List (List Int) → Prop) (post : List Int → List (List Int) → Prop) (v0 v1 v2 v3 v4 v5 : Int) : Prop :=
 ∀ v6 : Int, v6 = (if (decide ((v0 : Int) = 0) && (decide ((v1 : Int) = 0) && (decide ((v2 : Int) = 0) && (decide ((v3 : Int) = 0) && (decide ((v4 : Int) = 0) && decide ((v5 : Int) = 0)))))) = true then 1 else 0) →
 post [v6] []
theorem q46 (T : Tab) (I : Nat → Env → Env → Prop) (M : Nat → Env → Env → Nat) (pre : Nat → List Int → List (List Int) → Prop) (post : List Int → List (List Int) → Prop) (v0 v1 v2 v3 v4 v5 : Int) : t46.plain T (presG pre I M) post ⟨[v0, v1, v2, v3, v4, v5], []⟩ = p46 T I M pre post v0 v1 v2 v3 v4 v5 := by kernel_rfl
theorem k46 (T : Tab) (I : Nat → Env → Env → Prop) (M : Nat → Env → Env → Nat) (pre : Nat → List Int → List (List Int) → Prop) (hs : SubSig T c46.sigs) (ht : TotG pre c46.sigs) (hg : T.sig 46 = some s46) (hC : CtAll Try.prog T.fns (presQ pre) c46.pfs c46.pty c46.cls c46.sigs) (hk : CpAll Try.prog c46.cps) (hi : ∀ xs ls, allHas (parIvs s46.params) xs → pre 46 xs ls → allHas iv46 xs)
    (h : ∀ (v0 v1 v2 v3 v4 v5 : Int), allHas iv46 [v0, v1, v2, v3, v4, v5] → allL (parLvs s46.params) [] → pre 46 [v0, v1, v2, v3, v4, v5] [] → p46 T I M pre (fun ys _ => ys = T.app 46 [v0, v1, v2, v3, v4, v5] []) v0 v1 v2 v3 v4 v5) : CT Try.prog T.fns (presQ pre) 46 s46 :=
  T.ctg (F := ⟨c46, []⟩) (fuel := 250) vc46 Try.checked.mixed hs ht hg hC hk Try.func46 I M (fun xs ls h1 h2 h3 => ⟨hi xs ls h1 h3, h2⟩) fun xs ls hx hl hp => by
    match xs, ls, hx, hl, hp with
    | [v0, v1, v2, v3, v4, v5], [], hx, hl, hp => rw [q46]; exact h v0 v1 v2 v3 v4 v5 hx hl hp
/-- (loop.example/g01242/impl.limbs).used -/
def s57 : Sig := ⟨[.val true [.i .u32, .i .u32, .i .u32, .i .u32, .i .u32, .i .u32]], [(false, [.n .i64 0 6])], true⟩
noncomputable def c57 : Cfg := ⟨Try.prog, [], [], [], [], [], [], [], 77, []⟩
def iv57 : List Iv := [⟨0, 4294967295⟩, ⟨0, 4294967295⟩, ⟨0, 4294967295⟩, ⟨0, 4294967295⟩, ⟨0, 4294967295⟩, ⟨0, 4294967295⟩]
def t57 : VC :=
 (.ite (.eq (.var 5) (.lit 0))
  (.ite (.eq (.var 4) (.lit 0))
   (.ite (.eq (.var 3) (.lit 0))
    (.ite (.eq (.var 2) (.lit 0))
     (.ite (.eq (.var 1) (.lit 0))
      (.ite (.eq (.var 0) (.lit 0))
       (.fin (.e (.lit 0) .nil))
       (.fin (.e (.lit 1) .nil)))
      (.fin (.e (.lit 2) .nil)))
     (.fin (.e (.lit 3) .nil)))
    (.fin (.e (.lit 4) .nil)))
   (.fin (.e (.lit 5) .nil)))
  (.fin (.e (.lit 6) .nil)))
theorem vc57 : vcOfI ⟨c57, []⟩ iv57 (parLvs s57.params) 250 Try.f57 s57 = t57 := by kernel_rfl
set_option linter.unusedVariables false in
def p57 (T : Tab) (I : Nat → Env → Env → Prop) (M : Nat → Env → Env → Nat) (pre : Nat → List Int → List (List Int) → Prop) (post : List Int → List (List Int) → Prop) (v0 v1 v2 v3 v4 v5 : Int) : Prop :=
 ((decide ((v5 : Int) = 0) = true →
  ((decide ((v4 : Int) = 0) = true →
   ((decide ((v3 : Int) = 0) = true →
    ((decide ((v2 : Int) = 0) = true →
     ((decide ((v1 : Int) = 0) = true →
      ((decide ((v0 : Int) = 0) = true →
       post [0] []) ∧ (decide ((v0 : Int) = 0) = false →
       post [1] []))) ∧ (decide ((v1 : Int) = 0) = false →
      post [2] []))) ∧ (decide ((v2 : Int) = 0) = false →
     post [3] []))) ∧ (decide ((v3 : Int) = 0) = false →
    post [4] []))) ∧ (decide ((v4 : Int) = 0) = false →
   post [5] []))) ∧ (decide ((v5 : Int) = 0) = false →
  post [6] []))
theorem q57 (T : Tab) (I : Nat → Env → Env → Prop) (M : Nat → Env → Env → Nat) (pre : Nat → List Int → List (List Int) → Prop) (post : List Int → List (List Int) → Prop) (v0 v1 v2 v3 v4 v5 : Int) : t57.plain T (presG pre I M) post ⟨[v0, v1, v2, v3, v4, v5], []⟩ = p57 T I M pre post v0 v1 v2 v3 v4 v5 := by kernel_rfl
theorem k57 (T : Tab) (I : Nat → Env → Env → Prop) (M : Nat → Env → Env → Nat) (pre : Nat → List Int → List (List Int) → Prop) (hs : SubSig T c57.sigs) (ht : TotG pre c57.sigs) (hg : T.sig 57 = some s57) (hC : CtAll Try.prog T.fns (presQ pre) c57.pfs c57.pty c57.cls c57.sigs) (hk : CpAll Try.prog c57.cps) (hi : ∀ xs ls, allHas (parIvs s57.params) xs → pre 57 xs ls → allHas iv57 xs)
    (h : ∀ (v0 v1 v2 v3 v4 v5 : Int), allHas iv57 [v0, v1, v2, v3, v4, v5] → allL (parLvs s57.params) [] → pre 57 [v0, v1, v2, v3, v4, v5] [] → p57 T I M pre (fun ys _ => ys = T.app 57 [v0, v1, v2, v3, v4, v5] []) v0 v1 v2 v3 v4 v5) : CT Try.prog T.fns (presQ pre) 57 s57 :=
  T.ctg (F := ⟨c57, []⟩) (fuel := 250) vc57 Try.checked.mixed hs ht hg hC hk Try.func57 I M (fun xs ls h1 h2 h3 => ⟨hi xs ls h1 h3, h2⟩) fun xs ls hx hl hp => by
    match xs, ls, hx, hl, hp with
    | [v0, v1, v2, v3, v4, v5], [], hx, hl, hp => rw [q57]; exact h v0 v1 v2 v3 v4 v5 hx hl hp
def z58_0 : List Int := [0, 1, 2, 2, 3, 3, 3, 3, 4, 4, 4, 4, 4, 4, 4, 4, 5, 5, 5, 5, 5, 5, 5, 5, 5, 5, 5, 5, 5, 5, 5, 5, 6, 6, 6, 6, 6, 6, 6, 6, 6, 6, 6, 6, 6, 6, 6, 6, 6, 6, 6, 6, 6, 6, 6, 6, 6, 6, 6, 6, 6, 6, 6, 6, 7, 7, 7, 7, 7, 7, 7, 7, 7, 7, 7, 7, 7, 7, 7, 7, 7, 7, 7, 7, 7, 7, 7, 7, 7, 7, 7, 7, 7, 7, 7, 7, 7, 7, 7, 7, 7, 7, 7, 7, 7, 7, 7, 7, 7, 7, 7, 7, 7, 7, 7, 7, 7, 7, 7, 7, 7, 7, 7, 7, 7, 7, 7, 7, 8, 8, 8, 8, 8, 8, 8, 8, 8, 8, 8, 8, 8, 8, 8, 8, 8, 8, 8, 8, 8, 8, 8, 8, 8, 8, 8, 8, 8, 8, 8, 8, 8, 8, 8, 8, 8, 8, 8, 8, 8, 8, 8, 8, 8, 8, 8, 8, 8, 8, 8, 8, 8, 8, 8, 8, 8, 8, 8, 8, 8, 8, 8, 8, 8, 8, 8, 8, 8, 8, 8, 8, 8, 8, 8, 8, 8, 8, 8, 8, 8, 8, 8, 8, 8, 8, 8, 8, 8, 8, 8, 8, 8, 8, 8, 8, 8, 8, 8, 8, 8, 8, 8, 8, 8, 8, 8, 8, 8, 8, 8, 8, 8, 8, 8, 8, 8, 8, 8, 8, 8, 8, 8, 8, 8, 8, 8, 8]
/-- math/bits.Len32 -/
def s58 : Sig := ⟨[.val false [.i .u32]], [(false, [.n .i64 0 32])], true⟩
noncomputable def c58 : Cfg := ⟨Try.prog, [], [], [], [], [], [], [], 77, []⟩
def iv58 : List Iv := [⟨0, 4294967295⟩]
def t58 : VC :=
 (.ite (.le (.lit 65536) (.var 0))
  (.bind (.div (.var 0) (.lit 65536))
  (.ite (.le (.lit 256) (.var 1))
   (.bind (.div (.var 1) (.lit 256))
   (.need [(.b (.lt (.var 2) (.len (.lit z58_0))))]
   (.bind (.add (.lit 24) (.at (.lit z58_0) (.var 2)))
   (.fin (.e (.var 3) .nil)))))
   (.need [(.b (.lt (.var 1) (.len (.lit z58_0))))]
   (.bind (.add (.lit 16) (.at (.lit z58_0) (.var 1)))
   (.fin (.e (.var 2) .nil))))))
  (.ite (.le (.lit 256) (.var 0))
   (.bind (.div (.var 0) (.lit 256))
   (.need [(.b (.lt (.var 1) (.len (.lit z58_0))))]
   (.bind (.add (.lit 8) (.at (.lit z58_0) (.var 1)))
   (.fin (.e (.var 2) .nil)))))
   (.need [(.b (.lt (.var 0) (.len (.lit z58_0))))]
   (.bind (.add (.lit 0) (.at (.lit z58_0) (.var 0)))
   (.fin (.e (.var 1) .nil))))))
theorem vc58 : vcOfI ⟨c58, []⟩ iv58 (parLvs s58.params) 250 Try.f58 s58 = t58 := by kernel_rfl
set_option linter.unusedVariables false in
def p58 (T : Tab) (I : Nat → Env → Env → Prop) (M : Nat → Env → Env → Nat) (pre : Nat → List Int → List (List Int) → Prop) (post : List Int → List (List Int) → Prop) (v0 : Int) : Prop :=
 ((decide ((65536 : Int) ≤ v0) = true →
  ∀ v1 : Int, v1 = (v0 / 65536) →
  ((decide ((256 : Int) ≤ v1) = true →
   ∀ v2 : Int, v2 = (v1 / 256) →
   ((decide ((v2 : Int) < (List.length (z58_0 : List Int) : Int)) = true) ∧ ((decide ((v2 : Int) < (List.length (z58_0 : List Int) : Int)) = true) →
   ∀ v3 : Int, v3 = (24 + (List.getD (z58_0 : List Int) (Int.toNat v2) 0)) →
   post [v3] []))) ∧ (decide ((256 : Int) ≤ v1) = false →
   ((decide ((v1 : Int) < (List.length (z58_0 : List Int) : Int)) = true) ∧ ((decide ((v1 : Int) < (List.length (z58_0 : List Int) : Int)) = true) →
   ∀ v2 : Int, v2 = (16 + (List.getD (z58_0 : List Int) (Int.toNat v1) 0)) →
   post [v2] []))))) ∧ (decide ((65536 : Int) ≤ v0) = false →
  ((decide ((256 : Int) ≤ v0) = true →
   ∀ v1 : Int, v1 = (v0 / 256) →
   ((decide ((v1 : Int) < (List.length (z58_0 : List Int) : Int)) = true) ∧ ((decide ((v1 : Int) < (List.length (z58_0 : List Int) : Int)) = true) →
   ∀ v2 : Int, v2 = (8 + (List.getD (z58_0 : List Int) (Int.toNat v1) 0)) →
   post [v2] []))) ∧ (decide ((256 : Int) ≤ v0) = false →
   ((decide ((v0 : Int) < (List.length (z58_0 : List Int) : Int)) = true) ∧ ((decide ((v0 : Int) < (List.length (z58_0 : List Int) : Int)) = true) →
   ∀ v1 : Int, v1 = (0 + (List.getD (z58_0 : List Int) (Int.toNat v0) 0)) →
   post [v1] []))))))
theorem q58 (T : Tab) (I : Nat → Env → Env → Prop) (M : Nat → Env → Env → Nat) (pre : Nat → List Int → List (List Int) → Prop) (post : List Int → List (List Int) → Prop) (v0 : Int) : t58.plain T (presG pre I M) post ⟨[v0], []⟩ = p58 T I M pre post v0 := by kernel_rfl
theorem k58 (T : Tab) (I : Nat → Env → Env → Prop) (M : Nat → Env → Env → Nat) (pre : Nat → List Int → List (List Int) → Prop) (hs : SubSig T c58.sigs) (ht : TotG pre c58.sigs) (hg : T.sig 58 = some s58) (hC : CtAll Try.prog T.fns (presQ pre) c58.pfs c58.pty c58.cls c58.sigs) (hk : CpAll Try.prog c58.cps) (hi : ∀ xs ls, allHas (parIvs s58.params) xs → pre 58 xs ls → allHas iv58 xs)
    (h : ∀ (v0 : Int), allHas iv58 [v0] → allL (parLvs s58.params) [] → pre 58 [v0] [] → p58 T I M pre (fun ys _ => ys = T.app 58 [v0] []) v0) : CT Try.prog T.fns (presQ pre) 58 s58 :=
  T.ctg (F := ⟨c58, []⟩) (fuel := 250) vc58 Try.checked.mixed hs ht hg hC hk Try.func58 I M (fun xs ls h1 h2 h3 => ⟨hi xs ls h1 h3, h2⟩) fun xs ls hx hl hp => by
    match xs, ls, hx, hl, hp with
    | [v0], [], hx, hl, hp => rw [q58]; exact h v0 hx hl hp
/-- (loop.example/g01242/impl.limbs).bitCount -/
def s47 : Sig := ⟨[.val true [.i .u32, .i .u32, .i .u32, .i .u32, .i .u32, .i .u32]], [(false, [.n .i64 0 192])], true⟩
noncomputable def c47 : Cfg := ⟨Try.prog, [(57, s57), (58, s58)], [], [], [], [], [], [], 77, []⟩
def iv47 : List Iv := [⟨0, 4294967295⟩, ⟨0, 4294967295⟩, ⟨0, 4294967295⟩, ⟨0, 4294967295⟩, ⟨0, 4294967295⟩, ⟨0, 4294967295⟩]
def t47 : VC :=
 (.call 57 (.e (.var 0) (.e (.var 1) (.e (.var 2) (.e (.var 3) (.e (.var 4) (.e (.var 5) .nil)))))) 1
 (.ite (.eq (.var 6) (.lit 0))
  (.fin (.e (.lit 0) .nil))
  (.bind (.ite (.eq (.sub (.var 6) (.lit 1)) (.lit 0)) (.var 0) (.ite (.eq (.sub (.var 6) (.lit 1)) (.lit 1)) (.var 1) (.ite (.eq (.sub (.var 6) (.lit 1)) (.lit 2)) (.var 2) (.ite (.eq (.sub (.var 6) (.lit 1)) (.lit 3)) (.var 3) (.ite (.eq (.sub (.var 6) (.lit 1)) (.lit 4)) (.var 4) (.var 5))))))
  (.call 58 (.e (.var 7) .nil) 1
  (.bind (.add (.mul (.sub (.var 6) (.lit 1)) (.lit 32)) (.var 8))
  (.fin (.e (.var 9) .nil)))))))
theorem vc47 : vcOfI ⟨c47, []⟩ iv47 (parLvs s47.params) 250 Try.f47 s47 = t47 := by kernel_rfl
set_option linter.unusedVariables false in
def p47 (T : Tab) (I : Nat → Env → Env → Prop) (M : Nat → Env → Env → Nat) (pre : Nat → List Int → List (List Int) → Prop) (post : List Int → List (List Int) → Prop) (v0 v1 v2 v3 v4 v5 : Int) : Prop :=
 ∀ v6 : Int, [v6] = T.out 57 1 [v0, v1, v2, v3, v4, v5] →
 ((decide ((v6 : Int) = 0) = true →
  post [0] []) ∧ (decide ((v6 : Int) = 0) = false →
  ∀ v7 : Int, v7 = (if decide (((v6 - 1) : Int) = 0) = true then v0 else (if decide (((v6 - 1) : Int) = 1) = true then v1 else (if decide (((v6 - 1) : Int) = 2) = true then v2 else (if decide (((v6 - 1) : Int) = 3) = true then v3 else (if decide (((v6 - 1) : Int) = 4) = true then v4 else v5))))) →
  ∀ v8 : Int, [v8] = T.out 58 1 [v7] →
  ∀ v9 : Int, v9 = (((v6 - 1) * 32) + v8) →
  post [v9] []))
theorem q47 (T : Tab) (I : Nat → Env → Env → Prop) (M : Nat → Env → Env → Nat) (pre : Nat → List Int → List (List Int) → Prop) (post : List Int → List (List Int) → Prop) (v0 v1 v2 v3 v4 v5 : Int) : t47.plain T (presG pre I M) post ⟨[v0, v1, v2, v3, v4, v5], []⟩ = p47 T I M pre post v0 v1 v2 v3 v4 v5 := by kernel_rfl
theorem k47 (T : Tab) (I : Nat → Env → Env → Prop) (M : Nat → Env → Env → Nat) (pre : Nat → List Int → List (List Int) → Prop) (hs : SubSig T c47.sigs) (ht : TotG pre c47.sigs) (hg : T.sig 47 = some s47) (hC : CtAll Try.prog T.fns (presQ pre) c47.pfs c47.pty c47.cls c47.sigs) (hk : CpAll Try.prog c47.cps) (hi : ∀ xs ls, allHas (parIvs s47.params) xs → pre 47 xs ls → allHas iv47 xs)
    (h : ∀ (v0 v1 v2 v3 v4 v5 : Int), allHas iv47 [v0, v1, v2, v3, v4, v5] → allL (parLvs s47.params) [] → pre 47 [v0, v1, v2, v3, v4, v5] [] → p47 T I M pre (fun ys _ => ys = T.app 47 [v0, v1, v2, v3, v4, v5] []) v0 v1 v2 v3 v4 v5) : CT Try.prog T.fns (presQ pre) 47 s47 :=
  T.ctg (F := ⟨c47, []⟩) (fuel := 250) vc47 Try.checked.mixed hs ht hg hC hk Try.func47 I M (fun xs ls h1 h2 h3 => ⟨hi xs ls h1 h3, h2⟩) fun xs ls hx hl hp => by
    match xs, ls, hx, hl, hp with
    | [v0, v1, v2, v3, v4, v5], [], hx, hl, hp => rw [q47]; exact h v0 v1 v2 v3 v4 v5 hx hl hp
/-- (loop.example/g01242/impl.limbs).compare -/
def s29 : Sig := ⟨[.val true [.i .u32, .i .u32, .i .u32, .i .u32, .i .u32, .i .u32], .val true [.i .u32, .i .u32, .i .u32, .i .u32, .i .u32, .i .u32]], [(false, [.n .i64 (-1) 1])], true⟩
noncomputable def c29 : Cfg := ⟨Try.prog, [], [], [], [], [], [], [], 77, []⟩
def iv29 : List Iv := [⟨0, 4294967295⟩, ⟨0, 4294967295⟩, ⟨0, 4294967295⟩, ⟨0, 4294967295⟩, ⟨0, 4294967295⟩, ⟨0, 4294967295⟩, ⟨0, 4294967295⟩, ⟨0, 4294967295⟩, ⟨0, 4294967295⟩, ⟨0, 4294967295⟩, ⟨0, 4294967295⟩, ⟨0, 4294967295⟩]
def t29 : VC :=
 (.ite (.and (.eq (.var 0) (.var 6)) (.and (.eq (.var 1) (.var 7)) (.and (.eq (.var 2) (.var 8)) (.and (.eq (.var 3) (.var 9)) (.and (.eq (.var 4) (.var 10)) (.eq (.var 5) (.var 11)))))))
  (.fin (.e (.lit 0) .nil))
  (.ite (.eq (.var 5) (.var 11))
   (.ite (.eq (.var 4) (.var 10))
    (.ite (.eq (.var 3) (.var 9))
     (.ite (.eq (.var 2) (.var 8))
      (.ite (.eq (.var 1) (.var 7))
       (.ite (.eq (.var 0) (.var 6))
        (.fail 16)
        (.ite (.lt (.var 0) (.var 6))
         (.fin (.e (.lit (-1)) .nil))
         (.fin (.e (.lit 1) .nil))))
       (.ite (.lt (.var 1) (.var 7))
        (.fin (.e (.lit (-1)) .nil))
        (.fin (.e (.lit 1) .nil))))
      (.ite (.lt (.var 2) (.var 8))
       (.fin (.e (.lit (-1)) .nil))
       (.fin (.e (.lit 1) .nil))))
     (.ite (.lt (.var 3) (.var 9))
      (.fin (.e (.lit (-1)) .nil))
      (.fin (.e (.lit 1) .nil))))
    (.ite (.lt (.var 4) (.var 10))
     (.fin (.e (.lit (-1)) .nil))
     (.fin (.e (.lit 1) .nil))))
   (.ite (.lt (.var 5) (.var 11))
    (.fin (.e (.lit (-1)) .nil))
    (.fin (.e (.lit 1) .nil)))))
theorem vc29 : vcOfI ⟨c29, []⟩ iv29 (parLvs s29.params) 250 Try.f29 s29 = t29 := by kernel_rfl
set_option linter.unusedVariables false in
def p29 (T : Tab) (I : Nat → Env → Env → Prop) (M : Nat → Env → Env → Nat) (pre : Nat → List Int → List (List Int) → Prop) (post : List Int → List (List Int) → Prop) (v0 v1 v2 v3 v4 v5 v6 v7 v8 v9 v10 v11 : Int) : Prop :=
 (((decide ((v0 : Int) = v6) && (decide ((v1 : Int) = v7) && (decide ((v2 : Int) = v8) && (decide ((v3 : Int) = v9) && (decide ((v4 : Int) = v10) && decide ((v5 : Int) = v11)))))) = true →
  post [0] []) ∧ ((decide ((v0 : Int) = v6) && (decide ((v1 : Int) = v7) && (decide ((v2 : Int) = v8) && (decide ((v3 : Int) = v9) && (decide ((v4 : Int) = v10) && decide ((v5 : Int) = v11)))))) = false →
  ((decide ((v5 : Int) = v11) = true →
   ((decide ((v4 : Int) = v10) = true →
    ((decide ((v3 : Int) = v9) = true →
     ((decide ((v2 : Int) = v8) = true →
      ((decide ((v1 : Int) = v7) = true →
       ((decide ((v0 : Int) = v6) = true →
        False) ∧ (decide ((v0 : Int) = v6) = false →
        ((decide ((v0 : Int) < v6) = true →
         post [(-1)] []) ∧ (decide ((v0 : Int) < v6) = false →
         post [1] []))))) ∧ (decide ((v1 : Int) = v7) = false →
       ((decide ((v1 : Int) < v7) = true →
        post [(-1)] []) ∧ (decide ((v1 : Int) < v7) = false →
        post [1] []))))) ∧ (decide ((v2 : Int) = v8) = false →
      ((decide ((v2 : Int) < v8) = true →
       post [(-1)] []) ∧ (decide ((v2 : Int) < v8) = false →
       post [1] []))))) ∧ (decide ((v3 : Int) = v9) = false →
     ((decide ((v3 : Int) < v9) = true →
      post [(-1)] []) ∧ (decide ((v3 : Int) < v9) = false →
      post [1] []))))) ∧ (decide ((v4 : Int) = v10) = false →
    ((decide ((v4 : Int) < v10) = true →
     post [(-1)] []) ∧ (decide ((v4 : Int) < v10) = false →
     post [1] []))))) ∧ (decide ((v5 : Int) = v11) = false →
   ((decide ((v5 : Int) < v11) = true →
    post [(-1)] []) ∧ (decide ((v5 : Int) < v11) = false →
    post [1] []))))))
theorem q29 (T : Tab) (I : Nat → Env → Env → Prop) (M : Nat → Env → Env → Nat) (pre : Nat → List Int → List (List Int) → Prop) (post : List Int → List (List Int) → Prop) (v0 v1 v2 v3 v4 v5 v6 v7 v8 v9 v10 v11 : Int) : t29.plain T (presG pre I M) post ⟨[v0, v1, v2, v3, v4, v5, v6, v7, v8, v9, v10, v11], []⟩ = p29 T I M pre post v0 v1 v2 v3 v4 v5 v6 v7 v8 v9 v10 v11 := by kernel_rfl
theorem k29 (T : Tab) (I : Nat → Env → Env → Prop) (M : Nat → Env → Env → Nat) (pre : Nat → List Int → List (List Int) → Prop) (hs : SubSig T c29.sigs) (ht : TotG pre c29.sigs) (hg : T.sig 29 = some s29) (hC : CtAll Try.prog T.fns (presQ pre) c29.pfs c29.pty c29.cls c29.sigs) (hk : CpAll Try.prog c29.cps) (hi : ∀ xs ls, allHas (parIvs s29.params) xs → pre 29 xs ls → allHas iv29 xs)
    (h : ∀ (v0 v1 v2 v3 v4 v5 v6 v7 v8 v9 v10 v11 : Int), allHas iv29 [v0, v1, v2, v3, v4, v5, v6, v7, v8, v9, v10, v11] → allL (parLvs s29.params) [] → pre 29 [v0, v1, v2, v3, v4, v5, v6, v7, v8, v9, v10, v11] [] → p29 T I M pre (fun ys _ => ys = T.app 29 [v0, v1, v2, v3, v4, v5, v6, v7, v8, v9, v10, v11] []) v0 v1 v2 v3 v4 v5 v6 v7 v8 v9 v10 v11) : CT Try.prog T.fns (presQ pre) 29 s29 :=
  T.ctg (F := ⟨c29, []⟩) (fuel := 250) vc29 Try.checked.mixed hs ht hg hC hk Try.func29 I M (fun xs ls h1 h2 h3 => ⟨hi xs ls h1 h3, h2⟩) fun xs ls hx hl hp => by
    match xs, ls, hx, hl, hp with
    | [v0, v1, v2, v3, v4, v5, v6, v7, v8, v9, v10, v11], [], hx, hl, hp => rw [q29]; exact h v0 v1 v2 v3 v4 v5 v6 v7 v8 v9 v10 v11 hx hl hp
/-- (loop.example/g01242/impl.limbs).plus -/
def s49 : Sig := ⟨[.val true [.i .u32, .i .u32, .i .u32, .i .u32, .i .u32, .i .u32], .val true [.i .u32, .i .u32, .i .u32, .i .u32, .i .u32, .i .u32]], [(true, [.i .u32, .i .u32, .i .u32, .i .u32, .i .u32, .i .u32]), (false, [.b])], true⟩
noncomputable def c49 : Cfg := ⟨Try.prog, [], [], [], [], [], [], [], 77, []⟩
def iv49 : List Iv := [⟨0, 4294967295⟩, ⟨0, 4294967295⟩, ⟨0, 4294967295⟩, ⟨0, 4294967295⟩, ⟨0, 4294967295⟩, ⟨0, 4294967295⟩, ⟨0, 4294967295⟩, ⟨0, 4294967295⟩, ⟨0, 4294967295⟩, ⟨0, 4294967295⟩, ⟨0, 4294967295⟩, ⟨0, 4294967295⟩]
def t49 : VC :=
 (.bind (.add (.var 0) (.var 6))
 (.bind (.wrap .u32 (.var 12))
 (.bind (.div (.var 12) (.lit 4294967296))
 (.bind (.add (.add (.var 1) (.var 7)) (.var 14))
 (.bind (.wrap .u32 (.var 15))
 (.bind (.div (.var 15) (.lit 4294967296))
 (.bind (.add (.add (.var 2) (.var 8)) (.var 17))
 (.bind (.wrap .u32 (.var 18))
 (.bind (.div (.var 18) (.lit 4294967296))
 (.bind (.add (.add (.var 3) (.var 9)) (.var 20))
 (.bind (.wrap .u32 (.var 21))
 (.bind (.div (.var 21) (.lit 4294967296))
 (.bind (.add (.add (.var 4) (.var 10)) (.var 23))
 (.bind (.wrap .u32 (.var 24))
 (.bind (.div (.var 24) (.lit 4294967296))
 (.bind (.add (.add (.var 5) (.var 11)) (.var 26))
 (.bind (.wrap .u32 (.var 27))
 (.bind (.div (.var 27) (.lit 4294967296))
 (.fin (.e (.var 13) (.e (.var 16) (.e (.var 19) (.e (.var 22) (.e (.var 25) (.e (.var 28) (.e (.ite (.not (.eq (.var 29) (.lit 0))) (.lit 1) (.lit 0)) .nil))))))))))))))))))))))))))
theorem vc49 : vcOfI ⟨c49, []⟩ iv49 (parLvs s49.params) 250 Try.f49 s49 = t49 := by kernel_rfl
set_option linter.unusedVariables false in
def p49 (T : Tab) (I : Nat → Env → Env → Prop) (M : Nat → Env → Env → Nat) (pre : Nat → List Int → List (List Int) → Prop) (post : List Int → List (List Int) → Prop) (v0 v1 v2 v3 v4 v5 v6 v7 v8 v9 v10 v11 : Int) : Prop :=
 ∀ v12 : Int, v12 = (v0 + v6) →
 ∀ v13 : Int, v13 = (IntKind.wrap .u32 v12) →
 ∀ v14 : Int, v14 = (v12 / 4294967296) →
 ∀ v15 : Int, v15 = ((v1 + v7) + v14) →
 ∀ v16 : Int, v16 = (IntKind.wrap .u32 v15) →
 ∀ v17 : Int, v17 = (v15 / 4294967296) →
 ∀ v18 : Int, v18 = ((v2 + v8) + v17) →
 ∀ v19 : Int, v19 = (IntKind.wrap .u32 v18) →
 ∀ v20 : Int, v20 = (v18 / 4294967296) →
 ∀ v21 : Int, v21 = ((v3 + v9) + v20) →
 ∀ v22 : Int, v22 = (IntKind.wrap .u32 v21) →
 ∀ v23 : Int, v23 = (v21 / 4294967296) →
 ∀ v24 : Int, v24 = ((v4 + v10) + v23) →
 ∀ v25 : Int, v25 = (IntKind.wrap .u32 v24) →
 ∀ v26 : Int, v26 = (v24 / 4294967296) →
 ∀ v27 : Int, v27 = ((v5 + v11) + v26) →
 ∀ v28 : Int, v28 = (IntKind.wrap .u32 v27) →
 ∀ v29 : Int, v29 = (v27 / 4294967296) →
 post [v13, v16, v19, v22, v25, v28, (if (!decide ((v29 : Int) = 0)) = true then 1 else 0)] []
theorem q49 (T : Tab) (I : Nat → Env → Env → Prop) (M : Nat → Env → Env → Nat) (pre : Nat → List Int → List (List Int) → Prop) (post : List Int → List (List Int) → Prop) (v0 v1 v2 v3 v4 v5 v6 v7 v8 v9 v10 v11 : Int) : t49.plain T (presG pre I M) post ⟨[v0, v1, v2, v3, v4, v5, v6, v7, v8, v9, v10, v11], []⟩ = p49 T I M pre post v0 v1 v2 v3 v4 v5 v6 v7 v8 v9 v10 v11 := by kernel_rfl
theorem k49 (T : Tab) (I : Nat → Env → Env → Prop) (M : Nat → Env → Env → Nat) (pre : Nat → List Int → List (List Int) → Prop) (hs : SubSig T c49.sigs) (ht : TotG pre c49.sigs) (hg : T.sig 49 = some s49) (hC : CtAll Try.prog T.fns (presQ pre) c49.pfs c49.pty c49.cls c49.sigs) (hk : CpAll Try.prog c49.cps) (hi : ∀ xs ls, allHas (parIvs s49.params) xs → pre 49 xs ls → allHas iv49 xs)
    (h : ∀ (v0 v1 v2 v3 v4 v5 v6 v7 v8 v9 v10 v11 : Int), allHas iv49 [v0, v1, v2, v3, v4, v5, v6, v7, v8, v9, v10, v11] → allL (parLvs s49.params) [] → pre 49 [v0, v1, v2, v3, v4, v5, v6, v7, v8, v9, v10, v11] [] → p49 T I M pre (fun ys _ => ys = T.app 49 [v0, v1, v2, v3, v4, v5, v6, v7, v8, v9, v10, v11] []) v0 v1 v2 v3 v4 v5 v6 v7 v8 v9 v10 v11) : CT Try.prog T.fns (presQ pre) 49 s49 :=
  T.ctg (F := ⟨c49, []⟩) (fuel := 250) vc49 Try.checked.mixed hs ht hg hC hk Try.func49 I M (fun xs ls h1 h2 h3 => ⟨hi xs ls h1 h3, h2⟩) fun xs ls hx hl hp => by
    match xs, ls, hx, hl, hp with
    | [v0, v1, v2, v3, v4, v5, v6, v7, v8, v9, v10, v11], [], hx, hl, hp => rw [q49]; exact h v0 v1 v2 v3 v4 v5 v6 v7 v8 v9 v10 v11 hx hl hp
/-- (loop.example/g01242/impl.limbs).minus -/
def s56 : Sig := ⟨[.val true [.i .u32, .i .u32, .i .u32, .i .u32, .i .u32, .i .u32], .val true [.i .u32, .i .u32, .i .u32, .i .u32, .i .u32, .i .u32]], [(true, [.i .u32, .i .u32, .i .u32, .i .u32, .i .u32, .i .u32])], true⟩
noncomputable def c56 : Cfg := ⟨Try.prog, [], [], [], [], [], [], [], 77, []⟩
def iv56 : List Iv := [⟨0, 4294967295⟩, ⟨0, 4294967295⟩, ⟨0, 4294967295⟩, ⟨0, 4294967295⟩, ⟨0, 4294967295⟩, ⟨0, 4294967295⟩, ⟨0, 4294967295⟩, ⟨0, 4294967295⟩, ⟨0, 4294967295⟩, ⟨0, 4294967295⟩, ⟨0, 4294967295⟩, ⟨0, 4294967295⟩]
def t56 : VC :=
 (.bind (.wrap .u64 (.sub (.var 0) (.var 6)))
 (.bind (.wrap .u32 (.var 12))
 (.bind (.div (.var 12) (.lit 9223372036854775808))
 (.bind (.wrap .u64 (.sub (.wrap .u64 (.sub (.var 1) (.var 7))) (.var 14)))
 (.bind (.wrap .u32 (.var 15))
 (.bind (.div (.var 15) (.lit 9223372036854775808))
 (.bind (.wrap .u64 (.sub (.wrap .u64 (.sub (.var 2) (.var 8))) (.var 17)))
 (.bind (.wrap .u32 (.var 18))
 (.bind (.div (.var 18) (.lit 9223372036854775808))
 (.bind (.wrap .u64 (.sub (.wrap .u64 (.sub (.var 3) (.var 9))) (.var 20)))
 (.bind (.wrap .u32 (.var 21))
 (.bind (.div (.var 21) (.lit 9223372036854775808))
 (.bind (.wrap .u64 (.sub (.wrap .u64 (.sub (.var 4) (.var 10))) (.var 23)))
 (.bind (.wrap .u32 (.var 24))
 (.bind (.div (.var 24) (.lit 9223372036854775808))
 (.bind (.wrap .u64 (.sub (.wrap .u64 (.sub (.var 5) (.var 11))) (.var 26)))
 (.bind (.wrap .u32 (.var 27))
 (.bind (.div (.var 27) (.lit 9223372036854775808))
 (.fin (.e (.var 13) (.e (.var 16) (.e (.var 19) (.e (.var 22) (.e (.var 25) (.e (.var 28) .nil)))))))))))))))))))))))))
theorem vc56 : vcOfI ⟨c56, []⟩ iv56 (parLvs s56.params) 250 Try.f56 s56 = t56 := by kernel_rfl
set_option linter.unusedVariables false in
def p56 (T : Tab) (I : Nat → Env → Env → Prop) (M : Nat → Env → Env → Nat) (pre : Nat → List Int → List (List Int) → Prop) (post : List Int → List (List Int) → Prop) (v0 v1 v2 v3 v4 v5 v6 v7 v8 v9 v10 v11 : Int) : Prop :=
 ∀ v12 : Int, v12 = (IntKind.wrap .u64 (v0 - v6)) →
 ∀ v13 : Int, v13 = (IntKind.wrap .u32 v12) →
 ∀ v14 : Int, v14 = (v12 / 9223372036854775808) →
 ∀ v15 : Int, v15 = (IntKind.wrap .u64 ((IntKind.wrap .u64 (v1 - v7)) - v14)) →
 ∀ v16 : Int, v16 = (IntKind.wrap .u32 v15) →
 ∀ v17 : Int, v17 = (v15 / 9223372036854775808) →
 ∀ v18 : Int, v18 = (IntKind.wrap .u64 ((IntKind.wrap .u64 (v2 - v8)) - v17)) →
 ∀ v19 : Int, v19 = (IntKind.wrap .u32 v18) →
 ∀ v20 : Int, v20 = (v18 / 9223372036854775808) →
 ∀ v21 : Int, v21 = (IntKind.wrap .u64 ((IntKind.wrap .u64 (v3 - v9)) - v20)) →
 ∀ v22 : Int, v22 = (IntKind.wrap .u32 v21) →
 ∀ v23 : Int, v23 = (v21 / 9223372036854775808) →
 ∀ v24 : Int, v24 = (IntKind.wrap .u64 ((IntKind.wrap .u64 (v4 - v10)) - v23)) →
 ∀ v25 : Int, v25 = (IntKind.wrap .u32 v24) →
 ∀ v26 : Int, v26 = (v24 / 9223372036854775808) →
 ∀ v27 : Int, v27 = (IntKind.wrap .u64 ((IntKind.wrap .u64 (v5 - v11)) - v26)) →
 ∀ v28 : Int, v28 = (IntKind.wrap .u32 v27) →
 ∀ v29 : Int, v29 = (v27 / 9223372036854775808) →
 post [v13, v16, v19, v22, v25, v28] []
theorem q56 (T : Tab) (I : Nat → Env → Env → Prop) (M : Nat → Env → Env → Nat) (pre : Nat → List Int → List (List Int) → Prop) (post : List Int → List (List Int) → Prop) (v0 v1 v2 v3 v4 v5 v6 v7 v8 v9 v10 v11 : Int) : t56.plain T (presG pre I M) post ⟨[v0, v1, v2, v3, v4, v5, v6, v7, v8, v9, v10, v11], []⟩ = p56 T I M pre post v0 v1 v2 v3 v4 v5 v6 v7 v8 v9 v10 v11 := by kernel_rfl
theorem k56 (T : Tab) (I : Nat → Env → Env → Prop) (M : Nat → Env → Env → Nat) (pre : Nat → List Int → List (List Int) → Prop) (hs : SubSig T c56.sigs) (ht : TotG pre c56.sigs) (hg : T.sig 56 = some s56) (hC : CtAll Try.prog T.fns (presQ pre) c56.pfs c56.pty c56.cls c56.sigs) (hk : CpAll Try.prog c56.cps) (hi : ∀ xs ls, allHas (parIvs s56.params) xs → pre 56 xs ls → allHas iv56 xs)
    (h : ∀ (v0 v1 v2 v3 v4 v5 v6 v7 v8 v9 v10 v11 : Int), allHas iv56 [v0, v1, v2, v3, v4, v5, v6, v7, v8, v9, v10, v11] → allL (parLvs s56.params) [] → pre 56 [v0, v1, v2, v3, v4, v5, v6, v7, v8, v9, v10, v11] [] → p56 T I M pre (fun ys _ => ys = T.app 56 [v0, v1, v2, v3, v4, v5, v6, v7, v8, v9, v10, v11] []) v0 v1 v2 v3 v4 v5 v6 v7 v8 v9 v10 v11) : CT Try.prog T.fns (presQ pre) 56 s56 :=
  T.ctg (F := ⟨c56, []⟩) (fuel := 250) vc56 Try.checked.mixed hs ht hg hC hk Try.func56 I M (fun xs ls h1 h2 h3 => ⟨hi xs ls h1 h3, h2⟩) fun xs ls hx hl hp => by
    match xs, ls, hx, hl, hp with
    | [v0, v1, v2, v3, v4, v5, v6, v7, v8, v9, v10, v11], [], hx, hl, hp => rw [q56]; exact h v0 v1 v2 v3 v4 v5 v6 v7 v8 v9 v10 v11 hx hl hp
/-- (loop.example/g01242/impl.limbs).next -/
def s28 : Sig := ⟨[.val true [.i .u32, .i .u32, .i .u32, .i .u32, .i .u32, .i .u32]], [(true, [.i .u32, .i .u32, .i .u32, .i .u32, .i .u32, .i .u32])], true⟩
noncomputable def c28 : Cfg := ⟨Try.prog, [(49, s49)], [], [], [], [], [], [], 77, []⟩
def iv28 : List Iv := [⟨0, 4294967295⟩, ⟨0, 4294967295⟩, ⟨0, 4294967295⟩, ⟨0, 4294967295⟩, ⟨0, 4294967295⟩, ⟨0, 4294967295⟩]
def t28 : VC :=
 (.call 49 (.e (.var 0) (.e (.var 1) (.e (.var 2) (.e (.var 3) (.e (.var 4) (.e (.var 5) (.e (.lit 1) (.e (.lit 0) (.e (.lit 0) (.e (.lit 0) (.e (.lit 0) (.e (.lit 0) .nil)))))))))))) 7
 (.fin (.e (.var 6) (.e (.var 7) (.e (.var 8) (.e (.var 9) (.e (.var 10) (.e (.var 11) .nil))))))))
theorem vc28 : vcOfI ⟨c28, []⟩ iv28 (parLvs s28.params) 250 Try.f28 s28 = t28 := by kernel_rfl
set_option linter.unusedVariables false in
def p28 (T : Tab) (I : Nat → Env → Env → Prop) (M : Nat → Env → Env → Nat) (pre : Nat → List Int → List (List Int) → Prop) (post : List Int → List (List Int) → Prop) (v0 v1 v2 v3 v4 v5 : Int) : Prop :=
 ∀ v6 v7 v8 v9 v10 v11 v12 : Int, [v6, v7, v8, v9, v10, v11, v12] = T.out 49 7 [v0, v1, v2, v3, v4, v5, 1, 0, 0, 0, 0, 0] →
 post [v6, v7, v8, v9, v10, v11] []
theorem q28 (T : Tab) (I : Nat → Env → Env → Prop) (M : Nat → Env → Env → Nat) (pre : Nat → List Int → List (List Int) → Prop) (post : List Int → List (List Int) → Prop) (v0 v1 v2 v3 v4 v5 : Int) : t28.plain T (presG pre I M) post ⟨[v0, v1, v2, v3, v4, v5], []⟩ = p28 T I M pre post v0 v1 v2 v3 v4 v5 := by kernel_rfl
theorem k28 (T : Tab) (I : Nat → Env → Env → Prop) (M : Nat → Env → Env → Nat) (pre : Nat → List Int → List (List Int) → Prop) (hs : SubSig T c28.sigs) (ht : TotG pre c28.sigs) (hg : T.sig 28 = some s28) (hC : CtAll Try.prog T.fns (presQ pre) c28.pfs c28.pty c28.cls c28.sigs) (hk : CpAll Try.prog c28.cps) (hi : ∀ xs ls, allHas (parIvs s28.params) xs → pre 28 xs ls → allHas iv28 xs)
    (h : ∀ (v0 v1 v2 v3 v4 v5 : Int), allHas iv28 [v0, v1, v2, v3, v4, v5] → allL (parLvs s28.params) [] → pre 28 [v0, v1, v2, v3, v4, v5] [] → p28 T I M pre (fun ys _ => ys = T.app 28 [v0, v1, v2, v3, v4, v5] []) v0 v1 v2 v3 v4 v5) : CT Try.prog T.fns (presQ pre) 28 s28 :=
  T.ctg (F := ⟨c28, []⟩) (fuel := 250) vc28 Try.checked.mixed hs ht hg hC hk Try.func28 I M (fun xs ls h1 h2 h3 => ⟨hi xs ls h1 h3, h2⟩) fun xs ls hx hl hp => by
    match xs, ls, hx, hl, hp with
    | [v0, v1, v2, v3, v4, v5], [], hx, hl, hp => rw [q28]; exact h v0 v1 v2 v3 v4 v5 hx hl hp
/-- (loop.example/g01242/impl.limbs).up -/
def s27 : Sig := ⟨[.val true [.i .u32, .i .u32, .i .u32, .i .u32, .i .u32, .i .u32], .val false [.i .i64]], [(true, [.i .u32, .i .u32, .i .u32, .i .u32, .i .u32, .i .u32])], false⟩
noncomputable def c27 : Cfg := ⟨Try.prog, [], [], [], [], [], [], [], 77, []⟩
def iv27 : List Iv := [⟨0, 4294967295⟩, ⟨0, 4294967295⟩, ⟨0, 4294967295⟩, ⟨0, 4294967295⟩, ⟨0, 4294967295⟩, ⟨0, 4294967295⟩, ⟨0, 191⟩]
def t27 : VC :=
 (.bind (.div (.var 6) (.lit 32))
 (.bind (.mod (.var 6) (.lit 32))
 (.loop 0 [(.var 7), (.lit 0), (.lit 0), (.lit 0), (.lit 0), (.lit 0), (.lit 0)] [] [⟨0, 6⟩, ⟨0, 4294967295⟩, ⟨0, 4294967295⟩, ⟨0, 4294967295⟩, ⟨0, 4294967295⟩, ⟨0, 4294967295⟩, ⟨0, 4294967295⟩] []
  (.ite (.lt (.var 9) (.lit 6))
   (.need [(.b (.le (.lit 0) (.sub (.var 9) (.var 7))))]
   (.bind (.ite (.eq (.sub (.var 9) (.var 7)) (.lit 0)) (.var 0) (.ite (.eq (.sub (.var 9) (.var 7)) (.lit 1)) (.var 1) (.ite (.eq (.sub (.var 9) (.var 7)) (.lit 2)) (.var 2) (.ite (.eq (.sub (.var 9) (.var 7)) (.lit 3)) (.var 3) (.ite (.eq (.sub (.var 9) (.var 7)) (.lit 4)) (.var 4) (.var 5))))))
   (.bind (.ite (.eq (.var 9) (.lit 0)) (.wrap .u32 (.mul (.var 16) (.pow2 (.var 8)))) (.var 10))
   (.bind (.ite (.eq (.var 9) (.lit 1)) (.wrap .u32 (.mul (.var 16) (.pow2 (.var 8)))) (.var 11))
   (.bind (.ite (.eq (.var 9) (.lit 2)) (.wrap .u32 (.mul (.var 16) (.pow2 (.var 8)))) (.var 12))
   (.bind (.ite (.eq (.var 9) (.lit 3)) (.wrap .u32 (.mul (.var 16) (.pow2 (.var 8)))) (.var 13))
   (.bind (.ite (.eq (.var 9) (.lit 4)) (.wrap .u32 (.mul (.var 16) (.pow2 (.var 8)))) (.var 14))
   (.bind (.ite (.eq (.var 9) (.lit 5)) (.wrap .u32 (.mul (.var 16) (.pow2 (.var 8)))) (.var 15))
   (.ite (.lt (.var 7) (.var 9))
    (.need [(.b (.le (.lit 0) (.sub (.sub (.var 9) (.var 7)) (.lit 1))))]
    (.bind (.ite (.eq (.var 9) (.lit 0)) (.var 17) (.ite (.eq (.var 9) (.lit 1)) (.var 18) (.ite (.eq (.var 9) (.lit 2)) (.var 19) (.ite (.eq (.var 9) (.lit 3)) (.var 20) (.ite (.eq (.var 9) (.lit 4)) (.var 21) (.var 22))))))
    (.bind (.ite (.eq (.sub (.sub (.var 9) (.var 7)) (.lit 1)) (.lit 0)) (.var 0) (.ite (.eq (.sub (.sub (.var 9) (.var 7)) (.lit 1)) (.lit 1)) (.var 1) (.ite (.eq (.sub (.sub (.var 9) (.var 7)) (.lit 1)) (.lit 2)) (.var 2) (.ite (.eq (.sub (.sub (.var 9) (.var 7)) (.lit 1)) (.lit 3)) (.var 3) (.ite (.eq (.sub (.sub (.var 9) (.var 7)) (.lit 1)) (.lit 4)) (.var 4) (.var 5))))))
    (.bind (.ite (.eq (.var 9) (.lit 0)) (.bits .or .u32 (.ite (.eq (.var 9) (.lit 0)) (.var 17) (.ite (.eq (.var 9) (.lit 1)) (.var 18) (.ite (.eq (.var 9) (.lit 2)) (.var 19) (.ite (.eq (.var 9) (.lit 3)) (.var 20) (.ite (.eq (.var 9) (.lit 4)) (.var 21) (.var 22)))))) (.div (.ite (.eq (.sub (.sub (.var 9) (.var 7)) (.lit 1)) (.lit 0)) (.var 0) (.ite (.eq (.sub (.sub (.var 9) (.var 7)) (.lit 1)) (.lit 1)) (.var 1) (.ite (.eq (.sub (.sub (.var 9) (.var 7)) (.lit 1)) (.lit 2)) (.var 2) (.ite (.eq (.sub (.sub (.var 9) (.var 7)) (.lit 1)) (.lit 3)) (.var 3) (.ite (.eq (.sub (.sub (.var 9) (.var 7)) (.lit 1)) (.lit 4)) (.var 4) (.var 5)))))) (.pow2 (.sub (.lit 32) (.var 8))))) (.var 17))
    (.bind (.ite (.eq (.var 9) (.lit 1)) (.bits .or .u32 (.ite (.eq (.var 9) (.lit 0)) (.var 17) (.ite (.eq (.var 9) (.lit 1)) (.var 18) (.ite (.eq (.var 9) (.lit 2)) (.var 19) (.ite (.eq (.var 9) (.lit 3)) (.var 20) (.ite (.eq (.var 9) (.lit 4)) (.var 21) (.var 22)))))) (.div (.ite (.eq (.sub (.sub (.var 9) (.var 7)) (.lit 1)) (.lit 0)) (.var 0) (.ite (.eq (.sub (.sub (.var 9) (.var 7)) (.lit 1)) (.lit 1)) (.var 1) (.ite (.eq (.sub (.sub (.var 9) (.var 7)) (.lit 1)) (.lit 2)) (.var 2) (.ite (.eq (.sub (.sub (.var 9) (.var 7)) (.lit 1)) (.lit 3)) (.var 3) (.ite (.eq (.sub (.sub (.var 9) (.var 7)) (.lit 1)) (.lit 4)) (.var 4) (.var 5)))))) (.pow2 (.sub (.lit 32) (.var 8))))) (.var 18))
    (.bind (.ite (.eq (.var 9) (.lit 2)) (.bits .or .u32 (.ite (.eq (.var 9) (.lit 0)) (.var 17) (.ite (.eq (.var 9) (.lit 1)) (.var 18) (.ite (.eq (.var 9) (.lit 2)) (.var 19) (.ite (.eq (.var 9) (.lit 3)) (.var 20) (.ite (.eq (.var 9) (.lit 4)) (.var 21) (.var 22)))))) (.div (.ite (.eq (.sub (.sub (.var 9) (.var 7)) (.lit 1)) (.lit 0)) (.var 0) (.ite (.eq (.sub (.sub (.var 9) (.var 7)) (.lit 1)) (.lit 1)) (.var 1) (.ite (.eq (.sub (.sub (.var 9) (.var 7)) (.lit 1)) (.lit 2)) (.var 2) (.ite (.eq (.sub (.sub (.var 9) (.var 7)) (.lit 1)) (.lit 3)) (.var 3) (.ite (.eq (.sub (.sub (.var 9) (.var 7)) (.lit 1)) (.lit 4)) (.var 4) (.var 5)))))) (.pow2 (.sub (.lit 32) (.var 8))))) (.var 19))
    (.bind (.ite (.eq (.var 9) (.lit 3)) (.bits .or .u32 (.ite (.eq (.var 9) (.lit 0)) (.var 17) (.ite (.eq (.var 9) (.lit 1)) (.var 18) (.ite (.eq (.var 9) (.lit 2)) (.var 19) (.ite (.eq (.var 9) (.lit 3)) (.var 20) (.ite (.eq (.var 9) (.lit 4)) (.var 21) (.var 22)))))) (.div (.ite (.eq (.sub (.sub (.var 9) (.var 7)) (.lit 1)) (.lit 0)) (.var 0) (.ite (.eq (.sub (.sub (.var 9) (.var 7)) (.lit 1)) (.lit 1)) (.var 1) (.ite (.eq (.sub (.sub (.var 9) (.var 7)) (.lit 1)) (.lit 2)) (.var 2) (.ite (.eq (.sub (.sub (.var 9) (.var 7)) (.lit 1)) (.lit 3)) (.var 3) (.ite (.eq (.sub (.sub (.var 9) (.var 7)) (.lit 1)) (.lit 4)) (.var 4) (.var 5)))))) (.pow2 (.sub (.lit 32) (.var 8))))) (.var 20))
    (.bind (.ite (.eq (.var 9) (.lit 4)) (.bits .or .u32 (.ite (.eq (.var 9) (.lit 0)) (.var 17) (.ite (.eq (.var 9) (.lit 1)) (.var 18) (.ite (.eq (.var 9) (.lit 2)) (.var 19) (.ite (.eq (.var 9) (.lit 3)) (.var 20) (.ite (.eq (.var 9) (.lit 4)) (.var 21) (.var 22)))))) (.div (.ite (.eq (.sub (.sub (.var 9) (.var 7)) (.lit 1)) (.lit 0)) (.var 0) (.ite (.eq (.sub (.sub (.var 9) (.var 7)) (.lit 1)) (.lit 1)) (.var 1) (.ite (.eq (.sub (.sub (.var 9) (.var 7)) (.lit 1)) (.lit 2)) (.var 2) (.ite (.eq (.sub (.sub (.var 9) (.var 7)) (.lit 1)) (.lit 3)) (.var 3) (.ite (.eq (.sub (.sub (.var 9) (.var 7)) (.lit 1)) (.lit 4)) (.var 4) (.var 5)))))) (.pow2 (.sub (.lit 32) (.var 8))))) (.var 21))
    (.bind (.ite (.eq (.var 9) (.lit 5)) (.bits .or .u32 (.ite (.eq (.var 9) (.lit 0)) (.var 17) (.ite (.eq (.var 9) (.lit 1)) (.var 18) (.ite (.eq (.var 9) (.lit 2)) (.var 19) (.ite (.eq (.var 9) (.lit 3)) (.var 20) (.ite (.eq (.var 9) (.lit 4)) (.var 21) (.var 22)))))) (.div (.ite (.eq (.sub (.sub (.var 9) (.var 7)) (.lit 1)) (.lit 0)) (.var 0) (.ite (.eq (.sub (.sub (.var 9) (.var 7)) (.lit 1)) (.lit 1)) (.var 1) (.ite (.eq (.sub (.sub (.var 9) (.var 7)) (.lit 1)) (.lit 2)) (.var 2) (.ite (.eq (.sub (.sub (.var 9) (.var 7)) (.lit 1)) (.lit 3)) (.var 3) (.ite (.eq (.sub (.sub (.var 9) (.var 7)) (.lit 1)) (.lit 4)) (.var 4) (.var 5)))))) (.pow2 (.sub (.lit 32) (.var 8))))) (.var 22))
    (.again 0 9 0 [⟨0, 6⟩, ⟨0, 4294967295⟩, ⟨0, 4294967295⟩, ⟨0, 4294967295⟩, ⟨0, 4294967295⟩, ⟨0, 4294967295⟩, ⟨0, 4294967295⟩] [(.add (.var 9) (.lit 1)), (.var 25), (.var 26), (.var 27), (.var 28), (.var 29), (.var 30)] []))))))))))
    (.again 0 9 0 [⟨0, 6⟩, ⟨0, 4294967295⟩, ⟨0, 4294967295⟩, ⟨0, 4294967295⟩, ⟨0, 4294967295⟩, ⟨0, 4294967295⟩, ⟨0, 4294967295⟩] [(.add (.var 9) (.lit 1)), (.var 17), (.var 18), (.var 19), (.var 20), (.var 21), (.var 22)] []))))))))))
   (.fin (.e (.var 10) (.e (.var 11) (.e (.var 12) (.e (.var 13) (.e (.var 14) (.e (.var 15) .nil)))))))))))
theorem vc27 : vcOfI ⟨c27, [(4, ⟨0, [8], [2], [14, 15, 18, 19, 20, 21, 22, 23, 24, 25, 26, 27, 28, 29, 30, 31, 32, 33, 34, 35, 36, 37, 38, 39, 40, 41, 42, 43, 16, 17], [⟨0, 6⟩, ⟨0, 4294967295⟩, ⟨0, 4294967295⟩, ⟨0, 4294967295⟩, ⟨0, 4294967295⟩, ⟨0, 4294967295⟩, ⟨0, 4294967295⟩], [], []⟩)]⟩ iv27 (parLvs s27.params) 250 Try.f27 s27 = t27 := by kernel_rfl
set_option linter.unusedVariables false in
def p27 (T : Tab) (I : Nat → Env → Env → Prop) (M : Nat → Env → Env → Nat) (pre : Nat → List Int → List (List Int) → Prop) (post : List Int → List (List Int) → Prop) (v0 v1 v2 v3 v4 v5 v6 : Int) : Prop :=
 ∀ v7 : Int, v7 = (v6 / 32) →
 ∀ v8 : Int, v8 = (v6 % 32) →
 ((allHas [⟨0, 6⟩, ⟨0, 4294967295⟩, ⟨0, 4294967295⟩, ⟨0, 4294967295⟩, ⟨0, 4294967295⟩, ⟨0, 4294967295⟩, ⟨0, 4294967295⟩] [v7, 0, 0, 0, 0, 0, 0] ∧ I 0 ⟨[v0, v1, v2, v3, v4, v5, v6, v7, v8], []⟩ ⟨[v7, 0, 0, 0, 0, 0, 0], []⟩) ∧ ∀ v9 v10 v11 v12 v13 v14 v15 : Int, allHas [⟨0, 6⟩, ⟨0, 4294967295⟩, ⟨0, 4294967295⟩, ⟨0, 4294967295⟩, ⟨0, 4294967295⟩, ⟨0, 4294967295⟩, ⟨0, 4294967295⟩] [v9, v10, v11, v12, v13, v14, v15] → I 0 ⟨[v0, v1, v2, v3, v4, v5, v6, v7, v8], []⟩ ⟨[v9, v10, v11, v12, v13, v14, v15], []⟩ →
  ((decide ((v9 : Int) < 6) = true →
   ((decide ((0 : Int) ≤ (v9 - v7)) = true) ∧ ((decide ((0 : Int) ≤ (v9 - v7)) = true) →
   ∀ v16 : Int, v16 = (if decide (((v9 - v7) : Int) = 0) = true then v0 else (if decide (((v9 - v7) : Int) = 1) = true then v1 else (if decide (((v9 - v7) : Int) = 2) = true then v2 else (if decide (((v9 - v7) : Int) = 3) = true then v3 else (if decide (((v9 - v7) : Int) = 4) = true then v4 else v5))))) →
   ∀ v17 : Int, v17 = (if decide ((v9 : Int) = 0) = true then (IntKind.wrap .u32 (v16 * (2 ^ (v8 : Int).toNat))) else v10) →
   ∀ v18 : Int, v18 = (if decide ((v9 : Int) = 1) = true then (IntKind.wrap .u32 (v16 * (2 ^ (v8 : Int).toNat))) else v11) →
   ∀ v19 : Int, v19 = (if decide ((v9 : Int) = 2) = true then (IntKind.wrap .u32 (v16 * (2 ^ (v8 : Int).toNat))) else v12) →
   ∀ v20 : Int, v20 = (if decide ((v9 : Int) = 3) = true then (IntKind.wrap .u32 (v16 * (2 ^ (v8 : Int).toNat))) else v13) →
   ∀ v21 : Int, v21 = (if decide ((v9 : Int) = 4) = true then (IntKind.wrap .u32 (v16 * (2 ^ (v8 : Int).toNat))) else v14) →
   ∀ v22 : Int, v22 = (if decide ((v9 : Int) = 5) = true then (IntKind.wrap .u32 (v16 * (2 ^ (v8 : Int).toNat))) else v15) →
   ((decide ((v7 : Int) < v9) = true →
    ((decide ((0 : Int) ≤ ((v9 - v7) - 1)) = true) ∧ ((decide ((0 : Int) ≤ ((v9 - v7) - 1)) = true) →
    ∀ v23 : Int, v23 = (if decide ((v9 : Int) = 0) = true then v17 else (if decide ((v9 : Int) = 1) = true then v18 else (if decide ((v9 : Int) = 2) = true then v19 else (if decide ((v9 : Int) = 3) = true then v20 else (if decide ((v9 : Int) = 4) = true then v21 else v22))))) →
    ∀ v24 : Int, v24 = (if decide ((((v9 - v7) - 1) : Int) = 0) = true then v0 else (if decide ((((v9 - v7) - 1) : Int) = 1) = true then v1 else (if decide ((((v9 - v7) - 1) : Int) = 2) = true then v2 else (if decide ((((v9 - v7) - 1) : Int) = 3) = true then v3 else (if decide ((((v9 - v7) - 1) : Int) = 4) = true then v4 else v5))))) →
    ∀ v25 : Int, v25 = (if decide ((v9 : Int) = 0) = true then (bitsInt .or .u32 (if decide ((v9 : Int) = 0) = true then v17 else (if decide ((v9 : Int) = 1) = true then v18 else (if decide ((v9 : Int) = 2) = true then v19 else (if decide ((v9 : Int) = 3) = true then v20 else (if decide ((v9 : Int) = 4) = true then v21 else v22))))) ((if decide ((((v9 - v7) - 1) : Int) = 0) = true then v0 else (if decide ((((v9 - v7) - 1) : Int) = 1) = true then v1 else (if decide ((((v9 - v7) - 1) : Int) = 2) = true then v2 else (if decide ((((v9 - v7) - 1) : Int) = 3) = true then v3 else (if decide ((((v9 - v7) - 1) : Int) = 4) = true then v4 else v5))))) / (2 ^ ((32 - v8) : Int).toNat))) else v17) →
    ∀ v26 : Int, v26 = (if decide ((v9 : Int) = 1) = true then (bitsInt .or .u32 (if decide ((v9 : Int) = 0) = true then v17 else (if decide ((v9 : Int) = 1) = true then v18 else (if decide ((v9 : Int) = 2) = true then v19 else (if decide ((v9 : Int) = 3) = true then v20 else (if decide ((v9 : Int) = 4) = true then v21 else v22))))) ((if decide ((((v9 - v7) - 1) : Int) = 0) = true then v0 else (if decide ((((v9 - v7) - 1) : Int) = 1) = true then v1 else (if decide ((((v9 - v7) - 1) : Int) = 2) = true then v2 else (if decide ((((v9 - v7) - 1) : Int) = 3) = true then v3 else (if decide ((((v9 - v7) - 1) : Int) = 4) = true then v4 else v5))))) / (2 ^ ((32 - v8) : Int).toNat))) else v18) →
    ∀ v27 : Int, v27 = (if decide ((v9 : Int) = 2) = true then (bitsInt .or .u32 (if decide ((v9 : Int) = 0) = true then v17 else (if decide ((v9 : Int) = 1) = true then v18 else (if decide ((v9 : Int) = 2) = true then v19 else (if decide ((v9 : Int) = 3) = true then v20 else (if decide ((v9 : Int) = 4) = true then v21 else v22))))) ((if decide ((((v9 - v7) - 1) : Int) = 0) = true then v0 else (if decide ((((v9 - v7) - 1) : Int) = 1) = true then v1 else (if decide ((((v9 - v7) - 1) : Int) = 2) = true then v2 else (if decide ((((v9 - v7) - 1) : Int) = 3) = true then v3 else (if decide ((((v9 - v7) - 1) : Int) = 4) = true then v4 else v5))))) / (2 ^ ((32 - v8) : Int).toNat))) else v19) →
    ∀ v28 : Int, v28 = (if decide ((v9 : Int) = 3) = true then (bitsInt .or .u32 (if decide ((v9 : Int) = 0) = true then v17 else (if decide ((v9 : Int) = 1) = true then v18 else (if decide ((v9 : Int) = 2) = true then v19 else (if decide ((v9 : Int) = 3) = true then v20 else (if decide ((v9 : Int) = 4) = true then v21 else v22))))) ((if decide ((((v9 - v7) - 1) : Int) = 0) = true then v0 else (if decide ((((v9 - v7) - 1) : Int) = 1) = true then v1 else (if decide ((((v9 - v7) - 1) : Int) = 2) = true then v2 else (if decide ((((v9 - v7) - 1) : Int) = 3) = true then v3 else (if decide ((((v9 - v7) - 1) : Int) = 4) = true then v4 else v5))))) / (2 ^ ((32 - v8) : Int).toNat))) else v20) →
    ∀ v29 : Int, v29 = (if decide ((v9 : Int) = 4) = true then (bitsInt .or .u32 (if decide ((v9 : Int) = 0) = true then v17 else (if decide ((v9 : Int) = 1) = true then v18 else (if decide ((v9 : Int) = 2) = true then v19 else (if decide ((v9 : Int) = 3) = true then v20 else (if decide ((v9 : Int) = 4) = true then v21 else v22))))) ((if decide ((((v9 - v7) - 1) : Int) = 0) = true then v0 else (if decide ((((v9 - v7) - 1) : Int) = 1) = true then v1 else (if decide ((((v9 - v7) - 1) : Int) = 2) = true then v2 else (if decide ((((v9 - v7) - 1) : Int) = 3) = true then v3 else (if decide ((((v9 - v7) - 1) : Int) = 4) = true then v4 else v5))))) / (2 ^ ((32 - v8) : Int).toNat))) else v21) →
    ∀ v30 : Int, v30 = (if decide ((v9 : Int) = 5) = true then (bitsInt .or .u32 (if decide ((v9 : Int) = 0) = true then v17 else (if decide ((v9 : Int) = 1) = true then v18 else (if decide ((v9 : Int) = 2) = true then v19 else (if decide ((v9 : Int) = 3) = true then v20 else (if decide ((v9 : Int) = 4) = true then v21 else v22))))) ((if decide ((((v9 - v7) - 1) : Int) = 0) = true then v0 else (if decide ((((v9 - v7) - 1) : Int) = 1) = true then v1 else (if decide ((((v9 - v7) - 1) : Int) = 2) = true then v2 else (if decide ((((v9 - v7) - 1) : Int) = 3) = true then v3 else (if decide ((((v9 - v7) - 1) : Int) = 4) = true then v4 else v5))))) / (2 ^ ((32 - v8) : Int).toNat))) else v22) →
    (allHas [⟨0, 6⟩, ⟨0, 4294967295⟩, ⟨0, 4294967295⟩, ⟨0, 4294967295⟩, ⟨0, 4294967295⟩, ⟨0, 4294967295⟩, ⟨0, 4294967295⟩] [(v9 + 1), v25, v26, v27, v28, v29, v30] ∧ I 0 ⟨[v0, v1, v2, v3, v4, v5, v6, v7, v8], []⟩ ⟨[(v9 + 1), v25, v26, v27, v28, v29, v30], []⟩ ∧ M 0 ⟨[v0, v1, v2, v3, v4, v5, v6, v7, v8], []⟩ ⟨[(v9 + 1), v25, v26, v27, v28, v29, v30], []⟩ < M 0 ⟨[v0, v1, v2, v3, v4, v5, v6, v7, v8], []⟩ ⟨[v9, v10, v11, v12, v13, v14, v15], []⟩)))) ∧ (decide ((v7 : Int) < v9) = false →
    (allHas [⟨0, 6⟩, ⟨0, 4294967295⟩, ⟨0, 4294967295⟩, ⟨0, 4294967295⟩, ⟨0, 4294967295⟩, ⟨0, 4294967295⟩, ⟨0, 4294967295⟩] [(v9 + 1), v17, v18, v19, v20, v21, v22] ∧ I 0 ⟨[v0, v1, v2, v3, v4, v5, v6, v7, v8], []⟩ ⟨[(v9 + 1), v17, v18, v19, v20, v21, v22], []⟩ ∧ M 0 ⟨[v0, v1, v2, v3, v4, v5, v6, v7, v8], []⟩ ⟨[(v9 + 1), v17, v18, v19, v20, v21, v22], []⟩ < M 0 ⟨[v0, v1, v2, v3, v4, v5, v6, v7, v8], []⟩ ⟨[v9, v10, v11, v12, v13, v14, v15], []⟩)))))) ∧ (decide ((v9 : Int) < 6) = false →
   post [v10, v11, v12, v13, v14, v15] [])))
theorem q27 (T : Tab) (I : Nat → Env → Env → Prop) (M : Nat → Env → Env → Nat) (pre : Nat → List Int → List (List Int) → Prop) (post : List Int → List (List Int) → Prop) (v0 v1 v2 v3 v4 v5 v6 : Int) : t27.plain T (presG pre I M) post ⟨[v0, v1, v2, v3, v4, v5, v6], []⟩ = p27 T I M pre post v0 v1 v2 v3 v4 v5 v6 := by kernel_rfl
theorem k27 (T : Tab) (I : Nat → Env → Env → Prop) (M : Nat → Env → Env → Nat) (pre : Nat → List Int → List (List Int) → Prop) (hs : SubSig T c27.sigs) (ht : TotG pre c27.sigs) (hg : T.sig 27 = some s27) (hC : CtAll Try.prog T.fns (presQ pre) c27.pfs c27.pty c27.cls c27.sigs) (hk : CpAll Try.prog c27.cps) (hi : ∀ xs ls, allHas (parIvs s27.params) xs → pre 27 xs ls → allHas iv27 xs)
    (h : ∀ (v0 v1 v2 v3 v4 v5 v6 : Int), allHas iv27 [v0, v1, v2, v3, v4, v5, v6] → allL (parLvs s27.params) [] → pre 27 [v0, v1, v2, v3, v4, v5, v6] [] → p27 T I M pre (fun ys _ => ys = T.app 27 [v0, v1, v2, v3, v4, v5, v6] []) v0 v1 v2 v3 v4 v5 v6) : CT Try.prog T.fns (presQ pre) 27 s27 :=
  T.ctg (F := ⟨c27, [(4, ⟨0, [8], [2], [14, 15, 18, 19, 20, 21, 22, 23, 24, 25, 26, 27, 28, 29, 30, 31, 32, 33, 34, 35, 36, 37, 38, 39, 40, 41, 42, 43, 16, 17], [⟨0, 6⟩, ⟨0, 4294967295⟩, ⟨0, 4294967295⟩, ⟨0, 4294967295⟩, ⟨0, 4294967295⟩, ⟨0, 4294967295⟩, ⟨0, 4294967295⟩], [], []⟩)]⟩) (fuel := 250) vc27 Try.checked.mixed hs ht hg hC hk Try.func27 I M (fun xs ls h1 h2 h3 => ⟨hi xs ls h1 h3, h2⟩) fun xs ls hx hl hp => by
    match xs, ls, hx, hl, hp with
    | [v0, v1, v2, v3, v4, v5, v6], [], hx, hl, hp => rw [q27]; exact h v0 v1 v2 v3 v4 v5 v6 hx hl hp
/-- loop.example/g01242/spec.l00In -/
def s37 : Sig := ⟨[.val false [.i .i64], .val false [.i .i64], .val false [.i .i64]], [(false, [.b])], true⟩
noncomputable def c37 : Cfg := ⟨Try.prog, [], [], [], [], [], [], [], 77, []⟩
def iv37 : List Iv := [⟨(-9223372036854775808), 9223372036854775807⟩, ⟨(-9223372036854775808), 9223372036854775807⟩, ⟨(-9223372036854775808), 9223372036854775807⟩]
def t37 : VC :=
 (.ite (.le (.var 1) (.var 0))
  (.fin (.e (.ite (.le (.var 0) (.var 2)) (.lit 1) (.lit 0)) .nil))
  (.fin (.e (.lit 0) .nil)))
theorem vc37 : vcOfI ⟨c37, []⟩ iv37 (parLvs s37.params) 250 Try.f37 s37 = t37 := by kernel_rfl
set_option linter.unusedVariables false in
def p37 (T : Tab) (I : Nat → Env → Env → Prop) (M : Nat → Env → Env → Nat) (pre : Nat → List Int → List (List Int) → Prop) (post : List Int → List (List Int) → Prop) (v0 v1 v2 : Int) : Prop :=
 ((decide ((v1 : Int) ≤ v0) = true →
  post [(if decide ((v0 : Int) ≤ v2) = true then 1 else 0)] []) ∧ (decide ((v1 : Int) ≤ v0) = false →
  post [0] []))
theorem q37 (T : Tab) (I : Nat → Env → Env → Prop) (M : Nat → Env → Env → Nat) (pre : Nat → List Int → List (List Int) → Prop) (post : List Int → List (List Int) → Prop) (v0 v1 v2 : Int) : t37.plain T (presG pre I M) post ⟨[v0, v1, v2], []⟩ = p37 T I M pre post v0 v1 v2 := by kernel_rfl
theorem k37 (T : Tab) (I : Nat → Env → Env → Prop) (M : Nat → Env → Env → Nat) (pre : Nat → List Int → List (List Int) → Prop) (hs : SubSig T c37.sigs) (ht : TotG pre c37.sigs) (hg : T.sig 37 = some s37) (hC : CtAll Try.prog T.fns (presQ pre) c37.pfs c37.pty c37.cls c37.sigs) (hk : CpAll Try.prog c37.cps) (hi : ∀ xs ls, allHas (parIvs s37.params) xs → pre 37 xs ls → allHas iv37 xs)
    (h : ∀ (v0 v1 v2 : Int), allHas iv37 [v0, v1, v2] → allL (parLvs s37.params) [] → pre 37 [v0, v1, v2] [] → p37 T I M pre (fun ys _ => ys = T.app 37 [v0, v1, v2] []) v0 v1 v2) : CT Try.prog T.fns (presQ pre) 37 s37 :=
  T.ctg (F := ⟨c37, []⟩) (fuel := 250) vc37 Try.checked.mixed hs ht hg hC hk Try.func37 I M (fun xs ls h1 h2 h3 => ⟨hi xs ls h1 h3, h2⟩) fun xs ls hx hl hp => by
    match xs, ls, hx, hl, hp with
    | [v0, v1, v2], [], hx, hl, hp => rw [q37]; exact h v0 v1 v2 hx hl hp
/-- loop.example/g01242/spec.l01Zero -/
def s54 : Sig := ⟨[.ptr [.i .u32, .i .u32, .i .u32, .i .u32, .i .u32, .i .u32]], [(false, [.b])], true⟩
noncomputable def c54 : Cfg := ⟨Try.prog, [], [], [], [], [], [], [], 77, []⟩
def iv54 : List Iv := [⟨0, 4294967295⟩, ⟨0, 4294967295⟩, ⟨0, 4294967295⟩, ⟨0, 4294967295⟩, ⟨0, 4294967295⟩, ⟨0, 4294967295⟩]
def t54 : VC :=
 (.bind (.ite (.and (.eq (.var 0) (.lit 0)) (.and (.eq (.var 1) (.lit 0)) (.and (.eq (.var 2) (.lit 0)) (.and (.eq (.var 3) (.lit 0)) (.and (.eq (.var 4) (.lit 0)) (.eq (.var 5) (.lit 0))))))) (.lit 1) (.lit 0))
 (.fin (.e (.var 6) .nil)))
theorem vc54 : vcOfI ⟨c54, []⟩ iv54 (parLvs s54.params) 250 Try.f54 s54 = t54 := by kernel_rfl
set_option linter.unusedVariables false in
def p54 (T : Tab) (I : Nat → Env → Env → Prop) (M : Nat → Env → Env → Nat) (pre : Nat → List Int → List (List Int) → Prop) (post : List Int → List (List Int) → Prop) (v0 v1 v2 v3 v4 v5 : Int) : Prop :=
 ∀ v6 : Int, v6 = (if (decide ((v0 : Int) = 0) && (decide ((v1 : Int) = 0) && (decide ((v2 : Int) = 0) && (decide ((v3 : Int) = 0) && (decide ((v4 : Int) = 0) && decide ((v5 : Int) = 0)))))) = true then 1 else 0) →
 post [v6] []
theorem q54 (T : Tab) (I : Nat → Env → Env → Prop) (M : Nat → Env → Env → Nat) (pre : Nat → List Int → List (List Int) → Prop) (post : List Int → List (List Int) → Prop) (v0 v1 v2 v3 v4 v5 : Int) : t54.plain T (presG pre I M) post ⟨[v0, v1, v2, v3, v4, v5], []⟩ = p54 T I M pre post v0 v1 v2 v3 v4 v5 := by kernel_rfl
theorem k54 (T : Tab) (I : Nat → Env → Env → Prop) (M : Nat → Env → Env → Nat) (pre : Nat → List Int → List (List Int) → Prop) (hs : SubSig T c54.sigs) (ht : TotG pre c54.sigs) (hg : T.sig 54 = some s54) (hC : CtAll Try.prog T.fns (presQ pre) c54.pfs c54.pty c54.cls c54.sigs) (hk : CpAll Try.prog c54.cps) (hi : ∀ xs ls, allHas (parIvs s54.params) xs → pre 54 xs ls → allHas iv54 xs)
    (h : ∀ (v0 v1 v2 v3 v4 v5 : Int), allHas iv54 [v0, v1, v2, v3, v4, v5] → allL (parLvs s54.params) [] → pre 54 [v0, v1, v2, v3, v4, v5] [] → p54 T I M pre (fun ys _ => ys = T.app 54 [v0, v1, v2, v3, v4, v5] []) v0 v1 v2 v3 v4 v5) : CT Try.prog T.fns (presQ pre) 54 s54 :=
  T.ctg (F := ⟨c54, []⟩) (fuel := 250) vc54 Try.checked.mixed hs ht hg hC hk Try.func54 I M (fun xs ls h1 h2 h3 => ⟨hi xs ls h1 h3, h2⟩) fun xs ls hx hl hp => by
    match xs, ls, hx, hl, hp with
    | [v0, v1, v2, v3, v4, v5], [], hx, hl, hp => rw [q54]; exact h v0 v1 v2 v3 v4 v5 hx hl hp
/-- loop.example/g01242/spec.l01Plus -/
def s40 : Sig := ⟨[.ptr [.i .u32, .i .u32, .i .u32, .i .u32, .i .u32, .i .u32], .ptr [.i .u32, .i .u32, .i .u32, .i .u32, .i .u32, .i .u32]], [(true, [.i .u32, .i .u32, .i .u32, .i .u32, .i .u32, .i .u32]), (false, [.b])], true⟩
noncomputable def c40 : Cfg := ⟨Try.prog, [], [], [], [], [], [], [], 77, []⟩
def iv40 : List Iv := [⟨0, 4294967295⟩, ⟨0, 4294967295⟩, ⟨0, 4294967295⟩, ⟨0, 4294967295⟩, ⟨0, 4294967295⟩, ⟨0, 4294967295⟩, ⟨0, 4294967295⟩, ⟨0, 4294967295⟩, ⟨0, 4294967295⟩, ⟨0, 4294967295⟩, ⟨0, 4294967295⟩, ⟨0, 4294967295⟩]
def t40 : VC :=
 (.bind (.add (.var 0) (.var 6))
 (.bind (.wrap .u32 (.var 12))
 (.bind (.div (.var 12) (.lit 4294967296))
 (.bind (.add (.add (.var 1) (.var 7)) (.var 14))
 (.bind (.wrap .u32 (.var 15))
 (.bind (.div (.var 15) (.lit 4294967296))
 (.bind (.add (.add (.var 2) (.var 8)) (.var 17))
 (.bind (.wrap .u32 (.var 18))
 (.bind (.div (.var 18) (.lit 4294967296))
 (.bind (.add (.add (.var 3) (.var 9)) (.var 20))
 (.bind (.wrap .u32 (.var 21))
 (.bind (.div (.var 21) (.lit 4294967296))
 (.bind (.add (.add (.var 4) (.var 10)) (.var 23))
 (.bind (.wrap .u32 (.var 24))
 (.bind (.div (.var 24) (.lit 4294967296))
 (.bind (.add (.add (.var 5) (.var 11)) (.var 26))
 (.bind (.wrap .u32 (.var 27))
 (.bind (.div (.var 27) (.lit 4294967296))
 (.fin (.e (.var 13) (.e (.var 16) (.e (.var 19) (.e (.var 22) (.e (.var 25) (.e (.var 28) (.e (.ite (.eq (.var 29) (.lit 0)) (.lit 1) (.lit 0)) .nil))))))))))))))))))))))))))
theorem vc40 : vcOfI ⟨c40, []⟩ iv40 (parLvs s40.params) 250 Try.f40 s40 = t40 := by kernel_rfl
set_option linter.unusedVariables false in
def p40 (T : Tab) (I : Nat → Env → Env → Prop) (M : Nat → Env → Env → Nat) (pre : Nat → List Int → List (List Int) → Prop) (post : List Int → List (List Int) → Prop) (v0 v1 v2 v3 v4 v5 v6 v7 v8 v9 v10 v11 : Int) : Prop :=
 ∀ v12 : Int, v12 = (v0 + v6) →
 ∀ v13 : Int, v13 = (IntKind.wrap .u32 v12) →
 ∀ v14 : Int, v14 = (v12 / 4294967296) →
 ∀ v15 : Int, v15 = ((v1 + v7) + v14) →
 ∀ v16 : Int, v16 = (IntKind.wrap .u32 v15) →
 ∀ v17 : Int, v17 = (v15 / 4294967296) →
 ∀ v18 : Int, v18 = ((v2 + v8) + v17) →
 ∀ v19 : Int, v19 = (IntKind.wrap .u32 v18) →
 ∀ v20 : Int, v20 = (v18 / 4294967296) →
 ∀ v21 : Int, v21 = ((v3 + v9) + v20) →
 ∀ v22 : Int, v22 = (IntKind.wrap .u32 v21) →
 ∀ v23 : Int, v23 = (v21 / 4294967296) →
 ∀ v24 : Int, v24 = ((v4 + v10) + v23) →
 ∀ v25 : Int, v25 = (IntKind.wrap .u32 v24) →
 ∀ v26 : Int, v26 = (v24 / 4294967296) →
 ∀ v27 : Int, v27 = ((v5 + v11) + v26) →
 ∀ v28 : Int, v28 = (IntKind.wrap .u32 v27) →
 ∀ v29 : Int, v29 = (v27 / 4294967296) →
 post [v13, v16, v19, v22, v25, v28, (if decide ((v29 : Int) = 0) = true then 1 else 0)] []
theorem q40 (T : Tab) (I : Nat → Env → Env → Prop) (M : Nat → Env → Env → Nat) (pre : Nat → List Int → List (List Int) → Prop) (post : List Int → List (List Int) → Prop) (v0 v1 v2 v3 v4 v5 v6 v7 v8 v9 v10 v11 : Int) : t40.plain T (presG pre I M) post ⟨[v0, v1, v2, v3, v4, v5, v6, v7, v8, v9, v10, v11], []⟩ = p40 T I M pre post v0 v1 v2 v3 v4 v5 v6 v7 v8 v9 v10 v11 := by kernel_rfl
theorem k40 (T : Tab) (I : Nat → Env → Env → Prop) (M : Nat → Env → Env → Nat) (pre : Nat → List Int → List (List Int) → Prop) (hs : SubSig T c40.sigs) (ht : TotG pre c40.sigs) (hg : T.sig 40 = some s40) (hC : CtAll Try.prog T.fns (presQ pre) c40.pfs c40.pty c40.cls c40.sigs) (hk : CpAll Try.prog c40.cps) (hi : ∀ xs ls, allHas (parIvs s40.params) xs → pre 40 xs ls → allHas iv40 xs)
    (h : ∀ (v0 v1 v2 v3 v4 v5 v6 v7 v8 v9 v10 v11 : Int), allHas iv40 [v0, v1, v2, v3, v4, v5, v6, v7, v8, v9, v10, v11] → allL (parLvs s40.params) [] → pre 40 [v0, v1, v2, v3, v4, v5, v6, v7, v8, v9, v10, v11] [] → p40 T I M pre (fun ys _ => ys = T.app 40 [v0, v1, v2, v3, v4, v5, v6, v7, v8, v9, v10, v11] []) v0 v1 v2 v3 v4 v5 v6 v7 v8 v9 v10 v11) : CT Try.prog T.fns (presQ pre) 40 s40 :=
  T.ctg (F := ⟨c40, []⟩) (fuel := 250) vc40 Try.checked.mixed hs ht hg hC hk Try.func40 I M (fun xs ls h1 h2 h3 => ⟨hi xs ls h1 h3, h2⟩) fun xs ls hx hl hp => by
    match xs, ls, hx, hl, hp with
    | [v0, v1, v2, v3, v4, v5, v6, v7, v8, v9, v10, v11], [], hx, hl, hp => rw [q40]; exact h v0 v1 v2 v3 v4 v5 v6 v7 v8 v9 v10 v11 hx hl hp
/-- loop.example/g01242/spec.l01Minus -/
def s42 : Sig := ⟨[.ptr [.i .u32, .i .u32, .i .u32, .i .u32, .i .u32, .i .u32], .ptr [.i .u32, .i .u32, .i .u32, .i .u32, .i .u32, .i .u32]], [(true, [.i .u32, .i .u32, .i .u32, .i .u32, .i .u32, .i .u32])], true⟩
noncomputable def c42 : Cfg := ⟨Try.prog, [], [], [], [], [], [], [], 77, []⟩
def iv42 : List Iv := [⟨0, 4294967295⟩, ⟨0, 4294967295⟩, ⟨0, 4294967295⟩, ⟨0, 4294967295⟩, ⟨0, 4294967295⟩, ⟨0, 4294967295⟩, ⟨0, 4294967295⟩, ⟨0, 4294967295⟩, ⟨0, 4294967295⟩, ⟨0, 4294967295⟩, ⟨0, 4294967295⟩, ⟨0, 4294967295⟩]
def t42 : VC :=
 (.bind (.sub (.var 0) (.var 6))
 (.bind (.ite (.lt (.var 12) (.lit 0)) (.lit 1) (.lit 0))
 (.bind (.ite (.lt (.var 12) (.lit 0)) (.add (.var 12) (.lit 4294967296)) (.var 12))
 (.bind (.wrap .u32 (.var 14))
 (.bind (.sub (.sub (.var 1) (.var 7)) (.var 13))
 (.bind (.ite (.lt (.var 16) (.lit 0)) (.lit 1) (.lit 0))
 (.bind (.ite (.lt (.var 16) (.lit 0)) (.add (.var 16) (.lit 4294967296)) (.var 16))
 (.bind (.wrap .u32 (.var 18))
 (.bind (.sub (.sub (.var 2) (.var 8)) (.var 17))
 (.bind (.ite (.lt (.var 20) (.lit 0)) (.lit 1) (.lit 0))
 (.bind (.ite (.lt (.var 20) (.lit 0)) (.add (.var 20) (.lit 4294967296)) (.var 20))
 (.bind (.wrap .u32 (.var 22))
 (.bind (.sub (.sub (.var 3) (.var 9)) (.var 21))
 (.bind (.ite (.lt (.var 24) (.lit 0)) (.lit 1) (.lit 0))
 (.bind (.ite (.lt (.var 24) (.lit 0)) (.add (.var 24) (.lit 4294967296)) (.var 24))
 (.bind (.wrap .u32 (.var 26))
 (.bind (.sub (.sub (.var 4) (.var 10)) (.var 25))
 (.bind (.ite (.lt (.var 28) (.lit 0)) (.lit 1) (.lit 0))
 (.bind (.ite (.lt (.var 28) (.lit 0)) (.add (.var 28) (.lit 4294967296)) (.var 28))
 (.bind (.wrap .u32 (.var 30))
 (.bind (.sub (.sub (.var 5) (.var 11)) (.var 29))
 (.bind (.ite (.lt (.var 32) (.lit 0)) (.lit 1) (.lit 0))
 (.bind (.ite (.lt (.var 32) (.lit 0)) (.add (.var 32) (.lit 4294967296)) (.var 32))
 (.bind (.wrap .u32 (.var 34))
 (.fin (.e (.var 15) (.e (.var 19) (.e (.var 23) (.e (.var 27) (.e (.var 31) (.e (.var 35) .nil)))))))))))))))))))))))))))))))
theorem vc42 : vcOfI ⟨c42, []⟩ iv42 (parLvs s42.params) 250 Try.f42 s42 = t42 := by kernel_rfl
set_option linter.unusedVariables false in
def p42 (T : Tab) (I : Nat → Env → Env → Prop) (M : Nat → Env → Env → Nat) (pre : Nat → List Int → List (List Int) → Prop) (post : List Int → List (List Int) → Prop) (v0 v1 v2 v3 v4 v5 v6 v7 v8 v9 v10 v11 : Int) : Prop :=
 ∀ v12 : Int, v12 = (v0 - v6) →
 ∀ v13 : Int, v13 = (if decide ((v12 : Int) < 0) = true then 1 else 0) →
 ∀ v14 : Int, v14 = (if decide ((v12 : Int) < 0) = true then (v12 + 4294967296) else v12) →
 ∀ v15 : Int, v15 = (IntKind.wrap .u32 v14) →
 ∀ v16 : Int, v16 = ((v1 - v7) - v13) →
 ∀ v17 : Int, v17 = (if decide ((v16 : Int) < 0) = true then 1 else 0) →
 ∀ v18 : Int, v18 = (if decide ((v16 : Int) < 0) = true then (v16 + 4294967296) else v16) →
 ∀ v19 : Int, v19 = (IntKind.wrap .u32 v18) →
 ∀ v20 : Int, v20 = ((v2 - v8) - v17) →
 ∀ v21 : Int, v21 = (if decide ((v20 : Int) < 0) = true then 1 else 0) →
 ∀ v22 : Int, v22 = (if decide ((v20 : Int) < 0) = true then (v20 + 4294967296) else v20) →
 ∀ v23 : Int, v23 = (IntKind.wrap .u32 v22) →
 ∀ v24 : Int, v24 = ((v3 - v9) - v21) →
 ∀ v25 : Int, v25 = (if decide ((v24 : Int) < 0) = true then 1 else 0) →
 ∀ v26 : Int, v26 = (if decide ((v24 : Int) < 0) = true then (v24 + 4294967296) else v24) →
 ∀ v27 : Int, v27 = (IntKind.wrap .u32 v26) →
 ∀ v28 : Int, v28 = ((v4 - v10) - v25) →
 ∀ v29 : Int, v29 = (if decide ((v28 : Int) < 0) = true then 1 else 0) →
 ∀ v30 : Int, v30 = (if decide ((v28 : Int) < 0) = true then (v28 + 4294967296) else v28) →
 ∀ v31 : Int, v31 = (IntKind.wrap .u32 v30) →
 ∀ v32 : Int, v32 = ((v5 - v11) - v29) →
 ∀ v33 : Int, v33 = (if decide ((v32 : Int) < 0) = true then 1 else 0) →
 ∀ v34 : Int, v34 = (if decide ((v32 : Int) < 0) = true then (v32 + 4294967296) else v32) →
 ∀ v35 : Int, v35 = (IntKind.wrap .u32 v34) →
 post [v15, v19, v23, v27, v31, v35] []
theorem q42 (T : Tab) (I : Nat → Env → Env → Prop) (M : Nat → Env → Env → Nat) (pre : Nat → List Int → List (List Int) → Prop) (post : List Int → List (List Int) → Prop) (v0 v1 v2 v3 v4 v5 v6 v7 v8 v9 v10 v11 : Int) : t42.plain T (presG pre I M) post ⟨[v0, v1, v2, v3, v4, v5, v6, v7, v8, v9, v10, v11], []⟩ = p42 T I M pre post v0 v1 v2 v3 v4 v5 v6 v7 v8 v9 v10 v11 := by kernel_rfl
theorem k42 (T : Tab) (I : Nat → Env → Env → Prop) (M : Nat → Env → Env → Nat) (pre : Nat → List Int → List (List Int) → Prop) (hs : SubSig T c42.sigs) (ht : TotG pre c42.sigs) (hg : T.sig 42 = some s42) (hC : CtAll Try.prog T.fns (presQ pre) c42.pfs c42.pty c42.cls c42.sigs) (hk : CpAll Try.prog c42.cps) (hi : ∀ xs ls, allHas (parIvs s42.params) xs → pre 42 xs ls → allHas iv42 xs)
    (h : ∀ (v0 v1 v2 v3 v4 v5 v6 v7 v8 v9 v10 v11 : Int), allHas iv42 [v0, v1, v2, v3, v4, v5, v6, v7, v8, v9, v10, v11] → allL (parLvs s42.params) [] → pre 42 [v0, v1, v2, v3, v4, v5, v6, v7, v8, v9, v10, v11] [] → p42 T I M pre (fun ys _ => ys = T.app 42 [v0, v1, v2, v3, v4, v5, v6, v7, v8, v9, v10, v11] []) v0 v1 v2 v3 v4 v5 v6 v7 v8 v9 v10 v11) : CT Try.prog T.fns (presQ pre) 42 s42 :=
  T.ctg (F := ⟨c42, []⟩) (fuel := 250) vc42 Try.checked.mixed hs ht hg hC hk Try.func42 I M (fun xs ls h1 h2 h3 => ⟨hi xs ls h1 h3, h2⟩) fun xs ls hx hl hp => by
    match xs, ls, hx, hl, hp with
    | [v0, v1, v2, v3, v4, v5, v6, v7, v8, v9, v10, v11], [], hx, hl, hp => rw [q42]; exact h v0 v1 v2 v3 v4 v5 v6 v7 v8 v9 v10 v11 hx hl hp
/-- loop.example/g01242/spec.l01Cmp -/
def s41 : Sig := ⟨[.ptr [.i .u32, .i .u32, .i .u32, .i .u32, .i .u32, .i .u32], .ptr [.i .u32, .i .u32, .i .u32, .i .u32, .i .u32, .i .u32]], [(false, [.n .i64 (-1) 1])], true⟩
noncomputable def c41 : Cfg := ⟨Try.prog, [], [], [], [], [], [], [], 77, []⟩
def iv41 : List Iv := [⟨0, 4294967295⟩, ⟨0, 4294967295⟩, ⟨0, 4294967295⟩, ⟨0, 4294967295⟩, ⟨0, 4294967295⟩, ⟨0, 4294967295⟩, ⟨0, 4294967295⟩, ⟨0, 4294967295⟩, ⟨0, 4294967295⟩, ⟨0, 4294967295⟩, ⟨0, 4294967295⟩, ⟨0, 4294967295⟩]
def t41 : VC :=
 (.ite (.lt (.var 5) (.var 11))
  (.fin (.e (.lit (-1)) .nil))
  (.ite (.lt (.var 11) (.var 5))
   (.fin (.e (.lit 1) .nil))
   (.ite (.lt (.var 4) (.var 10))
    (.fin (.e (.lit (-1)) .nil))
    (.ite (.lt (.var 10) (.var 4))
     (.fin (.e (.lit 1) .nil))
     (.ite (.lt (.var 3) (.var 9))
      (.fin (.e (.lit (-1)) .nil))
      (.ite (.lt (.var 9) (.var 3))
       (.fin (.e (.lit 1) .nil))
       (.ite (.lt (.var 2) (.var 8))
        (.fin (.e (.lit (-1)) .nil))
        (.ite (.lt (.var 8) (.var 2))
         (.fin (.e (.lit 1) .nil))
         (.ite (.lt (.var 1) (.var 7))
          (.fin (.e (.lit (-1)) .nil))
          (.ite (.lt (.var 7) (.var 1))
           (.fin (.e (.lit 1) .nil))
           (.ite (.lt (.var 0) (.var 6))
            (.fin (.e (.lit (-1)) .nil))
            (.ite (.lt (.var 6) (.var 0))
             (.fin (.e (.lit 1) .nil))
             (.fin (.e (.lit 0) .nil))))))))))))))
theorem vc41 : vcOfI ⟨c41, []⟩ iv41 (parLvs s41.params) 250 Try.f41 s41 = t41 := by kernel_rfl
set_option linter.unusedVariables false in
def p41 (T : Tab) (I : Nat → Env → Env → Prop) (M : Nat → Env → Env → Nat) (pre : Nat → List Int → List (List Int) → Prop) (post : List Int → List (List Int) → Prop) (v0 v1 v2 v3 v4 v5 v6 v7 v8 v9 v10 v11 : Int) : Prop :=
 ((decide ((v5 : Int) < v11) = true →
  post [(-1)] []) ∧ (decide ((v5 : Int) < v11) = false →
  ((decide ((v11 : Int) < v5) = true →
   post [1] []) ∧ (decide ((v11 : Int) < v5) = false →
   ((decide ((v4 : Int) < v10) = true →
    post [(-1)] []) ∧ (decide ((v4 : Int) < v10) = false →
    ((decide ((v10 : Int) < v4) = true →
     post [1] []) ∧ (decide ((v10 : Int) < v4) = false →
     ((decide ((v3 : Int) < v9) = true →
      post [(-1)] []) ∧ (decide ((v3 : Int) < v9) = false →
      ((decide ((v9 : Int) < v3) = true →
       post [1] []) ∧ (decide ((v9 : Int) < v3) = false →
       ((decide ((v2 : Int) < v8) = true →
        post [(-1)] []) ∧ (decide ((v2 : Int) < v8) = false →
        ((decide ((v8 : Int) < v2) = true →
         post [1] []) ∧ (decide ((v8 : Int) < v2) = false →
         ((decide ((v1 : Int) < v7) = true →
          post [(-1)] []) ∧ (decide ((v1 : Int) < v7) = false →
          ((decide ((v7 : Int) < v1) = true →
           post [1] []) ∧ (decide ((v7 : Int) < v1) = false →
           ((decide ((v0 : Int) < v6) = true →
            post [(-1)] []) ∧ (decide ((v0 : Int) < v6) = false →
            ((decide ((v6 : Int) < v0) = true →
             post [1] []) ∧ (decide ((v6 : Int) < v0) = false →
             post [0] []))))))))))))))))))))))))
theorem q41 (T : Tab) (I : Nat → Env → Env → Prop) (M : Nat → Env → Env → Nat) (pre : Nat → List Int → List (List Int) → Prop) (post : List Int → List (List Int) → Prop) (v0 v1 v2 v3 v4 v5 v6 v7 v8 v9 v10 v11 : Int) : t41.plain T (presG pre I M) post ⟨[v0, v1, v2, v3, v4, v5, v6, v7, v8, v9, v10, v11], []⟩ = p41 T I M pre post v0 v1 v2 v3 v4 v5 v6 v7 v8 v9 v10 v11 := by kernel_rfl
theorem k41 (T : Tab) (I : Nat → Env → Env → Prop) (M : Nat → Env → Env → Nat) (pre : Nat → List Int → List (List Int) → Prop) (hs : SubSig T c41.sigs) (ht : TotG pre c41.sigs) (hg : T.sig 41 = some s41) (hC : CtAll Try.prog T.fns (presQ pre) c41.pfs c41.pty c41.cls c41.sigs) (hk : CpAll Try.prog c41.cps) (hi : ∀ xs ls, allHas (parIvs s41.params) xs → pre 41 xs ls → allHas iv41 xs)
    (h : ∀ (v0 v1 v2 v3 v4 v5 v6 v7 v8 v9 v10 v11 : Int), allHas iv41 [v0, v1, v2, v3, v4, v5, v6, v7, v8, v9, v10, v11] → allL (parLvs s41.params) [] → pre 41 [v0, v1, v2, v3, v4, v5, v6, v7, v8, v9, v10, v11] [] → p41 T I M pre (fun ys _ => ys = T.app 41 [v0, v1, v2, v3, v4, v5, v6, v7, v8, v9, v10, v11] []) v0 v1 v2 v3 v4 v5 v6 v7 v8 v9 v10 v11) : CT Try.prog T.fns (presQ pre) 41 s41 :=
  T.ctg (F := ⟨c41, []⟩) (fuel := 250) vc41 Try.checked.mixed hs ht hg hC hk Try.func41 I M (fun xs ls h1 h2 h3 => ⟨hi xs ls h1 h3, h2⟩) fun xs ls hx hl hp => by
    match xs, ls, hx, hl, hp with
    | [v0, v1, v2, v3, v4, v5, v6, v7, v8, v9, v10, v11], [], hx, hl, hp => rw [q41]; exact h v0 v1 v2 v3 v4 v5 v6 v7 v8 v9 v10 v11 hx hl hp
/-- loop.example/g01242/spec.l01Bits -/
def s53 : Sig := ⟨[.ptr [.i .u32, .i .u32, .i .u32, .i .u32, .i .u32, .i .u32]], [(false, [.n .i64 0 192])], true⟩
noncomputable def c53 : Cfg := ⟨Try.prog, [], [], [], [], [], [], [], 77, []⟩
def iv53 : List Iv := [⟨0, 4294967295⟩, ⟨0, 4294967295⟩, ⟨0, 4294967295⟩, ⟨0, 4294967295⟩, ⟨0, 4294967295⟩, ⟨0, 4294967295⟩]
def t53 : VC :=
 (.ite (.eq (.var 5) (.lit 0))
  (.ite (.eq (.var 4) (.lit 0))
   (.ite (.eq (.var 3) (.lit 0))
    (.ite (.eq (.var 2) (.lit 0))
     (.ite (.eq (.var 1) (.lit 0))
      (.ite (.eq (.var 0) (.lit 0))
       (.fin (.e (.lit 0) .nil))
       (.loop 0 [(.lit 0), (.var 0)] [] [⟨0, 32⟩, ⟨0, 4294967295⟩] []
        (.ite (.lt (.lit 0) (.var 7))
         (.bind (.div (.var 7) (.lit 2))
         (.again 0 6 0 [⟨0, 32⟩, ⟨0, 4294967295⟩] [(.add (.var 6) (.lit 1)), (.var 8)] []))
         (.bind (.add (.lit 0) (.var 6))
         (.fin (.e (.var 8) .nil))))))
      (.loop 0 [(.lit 0), (.var 1)] [] [⟨0, 32⟩, ⟨0, 4294967295⟩] []
       (.ite (.lt (.lit 0) (.var 7))
        (.bind (.div (.var 7) (.lit 2))
        (.again 0 6 0 [⟨0, 32⟩, ⟨0, 4294967295⟩] [(.add (.var 6) (.lit 1)), (.var 8)] []))
        (.bind (.add (.lit 32) (.var 6))
        (.fin (.e (.var 8) .nil))))))
     (.loop 0 [(.lit 0), (.var 2)] [] [⟨0, 32⟩, ⟨0, 4294967295⟩] []
      (.ite (.lt (.lit 0) (.var 7))
       (.bind (.div (.var 7) (.lit 2))
       (.again 0 6 0 [⟨0, 32⟩, ⟨0, 4294967295⟩] [(.add (.var 6) (.lit 1)), (.var 8)] []))
       (.bind (.add (.lit 64) (.var 6))
       (.fin (.e (.var 8) .nil))))))
    (.loop 0 [(.lit 0), (.var 3)] [] [⟨0, 32⟩, ⟨0, 4294967295⟩] []
     (.ite (.lt (.lit 0) (.var 7))
      (.bind (.div (.var 7) (.lit 2))
      (.again 0 6 0 [⟨0, 32⟩, ⟨0, 4294967295⟩] [(.add (.var 6) (.lit 1)), (.var 8)] []))
      (.bind (.add (.lit 96) (.var 6))
      (.fin (.e (.var 8) .nil))))))
   (.loop 0 [(.lit 0), (.var 4)] [] [⟨0, 32⟩, ⟨0, 4294967295⟩] []
    (.ite (.lt (.lit 0) (.var 7))
     (.bind (.div (.var 7) (.lit 2))
     (.again 0 6 0 [⟨0, 32⟩, ⟨0, 4294967295⟩] [(.add (.var 6) (.lit 1)), (.var 8)] []))
     (.bind (.add (.lit 128) (.var 6))
     (.fin (.e (.var 8) .nil))))))
  (.loop 0 [(.lit 0), (.var 5)] [] [⟨0, 32⟩, ⟨0, 4294967295⟩] []
   (.ite (.lt (.lit 0) (.var 7))
    (.bind (.div (.var 7) (.lit 2))
    (.again 0 6 0 [⟨0, 32⟩, ⟨0, 4294967295⟩] [(.add (.var 6) (.lit 1)), (.var 8)] []))
    (.bind (.add (.lit 160) (.var 6))
    (.fin (.e (.var 8) .nil))))))
theorem vc53 : vcOfI ⟨c53, [(7, ⟨0, [4, 5], [], [21, 22, 25, 26, 23, 24, 13, 19], [⟨0, 32⟩, ⟨0, 4294967295⟩], [], []⟩)]⟩ iv53 (parLvs s53.params) 250 Try.f53 s53 = t53 := by kernel_rfl
set_option linter.unusedVariables false in
def p53 (T : Tab) (I : Nat → Env → Env → Prop) (M : Nat → Env → Env → Nat) (pre : Nat → List Int → List (List Int) → Prop) (post : List Int → List (List Int) → Prop) (v0 v1 v2 v3 v4 v5 : Int) : Prop :=
 ((decide ((v5 : Int) = 0) = true →
  ((decide ((v4 : Int) = 0) = true →
   ((decide ((v3 : Int) = 0) = true →
    ((decide ((v2 : Int) = 0) = true →
     ((decide ((v1 : Int) = 0) = true →
      ((decide ((v0 : Int) = 0) = true →
       post [0] []) ∧ (decide ((v0 : Int) = 0) = false →
       ((allHas [⟨0, 32⟩, ⟨0, 4294967295⟩] [0, v0] ∧ I 0 ⟨[v0, v1, v2, v3, v4, v5], []⟩ ⟨[0, v0], []⟩) ∧ ∀ v6 v7 : Int, allHas [⟨0, 32⟩, ⟨0, 4294967295⟩] [v6, v7] → I 0 ⟨[v0, v1, v2, v3, v4, v5], []⟩ ⟨[v6, v7], []⟩ →
        ((decide ((0 : Int) < v7) = true →
         ∀ v8 : Int, v8 = (v7 / 2) →
         (allHas [⟨0, 32⟩, ⟨0, 4294967295⟩] [(v6 + 1), v8] ∧ I 0 ⟨[v0, v1, v2, v3, v4, v5], []⟩ ⟨[(v6 + 1), v8], []⟩ ∧ M 0 ⟨[v0, v1, v2, v3, v4, v5], []⟩ ⟨[(v6 + 1), v8], []⟩ < M 0 ⟨[v0, v1, v2, v3, v4, v5], []⟩ ⟨[v6, v7], []⟩)) ∧ (decide ((0 : Int) < v7) = false →
         ∀ v8 : Int, v8 = (0 + v6) →
         post [v8] [])))))) ∧ (decide ((v1 : Int) = 0) = false →
      ((allHas [⟨0, 32⟩, ⟨0, 4294967295⟩] [0, v1] ∧ I 0 ⟨[v0, v1, v2, v3, v4, v5], []⟩ ⟨[0, v1], []⟩) ∧ ∀ v6 v7 : Int, allHas [⟨0, 32⟩, ⟨0, 4294967295⟩] [v6, v7] → I 0 ⟨[v0, v1, v2, v3, v4, v5], []⟩ ⟨[v6, v7], []⟩ →
       ((decide ((0 : Int) < v7) = true →
        ∀ v8 : Int, v8 = (v7 / 2) →
        (allHas [⟨0, 32⟩, ⟨0, 4294967295⟩] [(v6 + 1), v8] ∧ I 0 ⟨[v0, v1, v2, v3, v4, v5], []⟩ ⟨[(v6 + 1), v8], []⟩ ∧ M 0 ⟨[v0, v1, v2, v3, v4, v5], []⟩ ⟨[(v6 + 1), v8], []⟩ < M 0 ⟨[v0, v1, v2, v3, v4, v5], []⟩ ⟨[v6, v7], []⟩)) ∧ (decide ((0 : Int) < v7) = false →
        ∀ v8 : Int, v8 = (32 + v6) →
        post [v8] [])))))) ∧ (decide ((v2 : Int) = 0) = false →
     ((allHas [⟨0, 32⟩, ⟨0, 4294967295⟩] [0, v2] ∧ I 0 ⟨[v0, v1, v2, v3, v4, v5], []⟩ ⟨[0, v2], []⟩) ∧ ∀ v6 v7 : Int, allHas [⟨0, 32⟩, ⟨0, 4294967295⟩] [v6, v7] → I 0 ⟨[v0, v1, v2, v3, v4, v5], []⟩ ⟨[v6, v7], []⟩ →
      ((decide ((0 : Int) < v7) = true →
       ∀ v8 : Int, v8 = (v7 / 2) →
       (allHas [⟨0, 32⟩, ⟨0, 4294967295⟩] [(v6 + 1), v8] ∧ I 0 ⟨[v0, v1, v2, v3, v4, v5], []⟩ ⟨[(v6 + 1), v8], []⟩ ∧ M 0 ⟨[v0, v1, v2, v3, v4, v5], []⟩ ⟨[(v6 + 1), v8], []⟩ < M 0 ⟨[v0, v1, v2, v3, v4, v5], []⟩ ⟨[v6, v7], []⟩)) ∧ (decide ((0 : Int) < v7) = false →
       ∀ v8 : Int, v8 = (64 + v6) →
       post [v8] [])))))) ∧ (decide ((v3 : Int) = 0) = false →
    ((allHas [⟨0, 32⟩, ⟨0, 4294967295⟩] [0, v3] ∧ I 0 ⟨[v0, v1, v2, v3, v4, v5], []⟩ ⟨[0, v3], []⟩) ∧ ∀ v6 v7 : Int, allHas [⟨0, 32⟩, ⟨0, 4294967295⟩] [v6, v7] → I 0 ⟨[v0, v1, v2, v3, v4, v5], []⟩ ⟨[v6, v7], []⟩ →
     ((decide ((0 : Int) < v7) = true →
      ∀ v8 : Int, v8 = (v7 / 2) →
      (allHas [⟨0, 32⟩, ⟨0, 4294967295⟩] [(v6 + 1), v8] ∧ I 0 ⟨[v0, v1, v2, v3, v4, v5], []⟩ ⟨[(v6 + 1), v8], []⟩ ∧ M 0 ⟨[v0, v1, v2, v3, v4, v5], []⟩ ⟨[(v6 + 1), v8], []⟩ < M 0 ⟨[v0, v1, v2, v3, v4, v5], []⟩ ⟨[v6, v7], []⟩)) ∧ (decide ((0 : Int) < v7) = false →
      ∀ v8 : Int, v8 = (96 + v6) →
      post [v8] [])))))) ∧ (decide ((v4 : Int) = 0) = false →
   ((allHas [⟨0, 32⟩, ⟨0, 4294967295⟩] [0, v4] ∧ I 0 ⟨[v0, v1, v2, v3, v4, v5], []⟩ ⟨[0, v4], []⟩) ∧ ∀ v6 v7 : Int, allHas [⟨0, 32⟩, ⟨0, 4294967295⟩] [v6, v7] → I 0 ⟨[v0, v1, v2, v3, v4, v5], []⟩ ⟨[v6, v7], []⟩ →
    ((decide ((0 : Int) < v7) = true →
     ∀ v8 : Int, v8 = (v7 / 2) →
     (allHas [⟨0, 32⟩, ⟨0, 4294967295⟩] [(v6 + 1), v8] ∧ I 0 ⟨[v0, v1, v2, v3, v4, v5], []⟩ ⟨[(v6 + 1), v8], []⟩ ∧ M 0 ⟨[v0, v1, v2, v3, v4, v5], []⟩ ⟨[(v6 + 1), v8], []⟩ < M 0 ⟨[v0, v1, v2, v3, v4, v5], []⟩ ⟨[v6, v7], []⟩)) ∧ (decide ((0 : Int) < v7) = false →
     ∀ v8 : Int, v8 = (128 + v6) →
     post [v8] [])))))) ∧ (decide ((v5 : Int) = 0) = false →
  ((allHas [⟨0, 32⟩, ⟨0, 4294967295⟩] [0, v5] ∧ I 0 ⟨[v0, v1, v2, v3, v4, v5], []⟩ ⟨[0, v5], []⟩) ∧ ∀ v6 v7 : Int, allHas [⟨0, 32⟩, ⟨0, 4294967295⟩] [v6, v7] → I 0 ⟨[v0, v1, v2, v3, v4, v5], []⟩ ⟨[v6, v7], []⟩ →
   ((decide ((0 : Int) < v7) = true →
    ∀ v8 : Int, v8 = (v7 / 2) →
    (allHas [⟨0, 32⟩, ⟨0, 4294967295⟩] [(v6 + 1), v8] ∧ I 0 ⟨[v0, v1, v2, v3, v4, v5], []⟩ ⟨[(v6 + 1), v8], []⟩ ∧ M 0 ⟨[v0, v1, v2, v3, v4, v5], []⟩ ⟨[(v6 + 1), v8], []⟩ < M 0 ⟨[v0, v1, v2, v3, v4, v5], []⟩ ⟨[v6, v7], []⟩)) ∧ (decide ((0 : Int) < v7) = false →
    ∀ v8 : Int, v8 = (160 + v6) →
    post [v8] [])))))
theorem q53 (T : Tab) (I : Nat → Env → Env → Prop) (M : Nat → Env → Env → Nat) (pre : Nat → List Int → List (List Int) → Prop) (post : List Int → List (List Int) → Prop) (v0 v1 v2 v3 v4 v5 : Int) : t53.plain T (presG pre I M) post ⟨[v0, v1, v2, v3, v4, v5], []⟩ = p53 T I M pre post v0 v1 v2 v3 v4 v5 := by kernel_rfl
theorem k53 (T : Tab) (I : Nat → Env → Env → Prop) (M : Nat → Env → Env → Nat) (pre : Nat → List Int → List (List Int) → Prop) (hs : SubSig T c53.sigs) (ht : TotG pre c53.sigs) (hg : T.sig 53 = some s53) (hC : CtAll Try.prog T.fns (presQ pre) c53.pfs c53.pty c53.cls c53.sigs) (hk : CpAll Try.prog c53.cps) (hi : ∀ xs ls, allHas (parIvs s53.params) xs → pre 53 xs ls → allHas iv53 xs)
    (h : ∀ (v0 v1 v2 v3 v4 v5 : Int), allHas iv53 [v0, v1, v2, v3, v4, v5] → allL (parLvs s53.params) [] → pre 53 [v0, v1, v2, v3, v4, v5] [] → p53 T I M pre (fun ys _ => ys = T.app 53 [v0, v1, v2, v3, v4, v5] []) v0 v1 v2 v3 v4 v5) : CT Try.prog T.fns (presQ pre) 53 s53 :=
  T.ctg (F := ⟨c53, [(7, ⟨0, [4, 5], [], [21, 22, 25, 26, 23, 24, 13, 19], [⟨0, 32⟩, ⟨0, 4294967295⟩], [], []⟩)]⟩) (fuel := 250) vc53 Try.checked.mixed hs ht hg hC hk Try.func53 I M (fun xs ls h1 h2 h3 => ⟨hi xs ls h1 h3, h2⟩) fun xs ls hx hl hp => by
    match xs, ls, hx, hl, hp with
    | [v0, v1, v2, v3, v4, v5], [], hx, hl, hp => rw [q53]; exact h v0 v1 v2 v3 v4 v5 hx hl hp
/-- loop.example/g01242/spec.l01UpMag -/
def s38 : Sig := ⟨[.ptr [.i .u32, .i .u32, .i .u32, .i .u32, .i .u32, .i .u32], .val false [.i .i64]], [(true, [.i .u32, .i .u32, .i .u32, .i .u32, .i .u32, .i .u32]), (false, [.b])], false⟩
noncomputable def c38 : Cfg := ⟨Try.prog, [(53, s53), (54, s54)], [], [], [], [], [], [], 77, []⟩
def iv38 : List Iv := [⟨0, 4294967295⟩, ⟨0, 4294967295⟩, ⟨0, 4294967295⟩, ⟨0, 4294967295⟩, ⟨0, 4294967295⟩, ⟨0, 4294967295⟩, ⟨0, 191⟩]
def t38 : VC :=
 (.call 53 (.e (.var 0) (.e (.var 1) (.e (.var 2) (.e (.var 3) (.e (.var 4) (.e (.var 5) .nil)))))) 1
 (.ite (.lt (.lit 192) (.add (.var 7) (.var 6)))
  (.call 54 (.e (.var 0) (.e (.var 1) (.e (.var 2) (.e (.var 3) (.e (.var 4) (.e (.var 5) .nil)))))) 1
  (.ite (.not (.eq (.var 8) (.lit 1)))
   (.fin (.e (.lit 0) (.e (.lit 0) (.e (.lit 0) (.e (.lit 0) (.e (.lit 0) (.e (.lit 0) (.e (.lit 0) .nil))))))))
   (.loop 0 [(.lit 0), (.lit 0), (.lit 0), (.lit 0), (.lit 0), (.lit 0), (.lit 0)] [] [⟨0, 6⟩, ⟨0, 4294967295⟩, ⟨0, 4294967295⟩, ⟨0, 4294967295⟩, ⟨0, 4294967295⟩, ⟨0, 4294967295⟩, ⟨0, 4294967295⟩] []
    (.ite (.lt (.var 9) (.lit 6))
     (.bind (.add (.var 9) (.div (.var 6) (.lit 32)))
     (.ite (.le (.lit 6) (.var 16))
      (.fin (.e (.var 10) (.e (.var 11) (.e (.var 12) (.e (.var 13) (.e (.var 14) (.e (.var 15) (.e (.lit 1) .nil))))))))
      (.bind (.ite (.eq (.var 9) (.lit 0)) (.var 0) (.ite (.eq (.var 9) (.lit 1)) (.var 1) (.ite (.eq (.var 9) (.lit 2)) (.var 2) (.ite (.eq (.var 9) (.lit 3)) (.var 3) (.ite (.eq (.var 9) (.lit 4)) (.var 4) (.var 5))))))
      (.bind (.mul (.var 17) (.pow2 (.mod (.var 6) (.lit 32))))
      (.bind (.ite (.eq (.var 16) (.lit 0)) (.var 10) (.ite (.eq (.var 16) (.lit 1)) (.var 11) (.ite (.eq (.var 16) (.lit 2)) (.var 12) (.ite (.eq (.var 16) (.lit 3)) (.var 13) (.ite (.eq (.var 16) (.lit 4)) (.var 14) (.var 15))))))
      (.bind (.ite (.eq (.var 16) (.lit 0)) (.bits .or .u32 (.var 19) (.wrap .u32 (.var 18))) (.var 10))
      (.bind (.ite (.eq (.var 16) (.lit 1)) (.bits .or .u32 (.var 19) (.wrap .u32 (.var 18))) (.var 11))
      (.bind (.ite (.eq (.var 16) (.lit 2)) (.bits .or .u32 (.var 19) (.wrap .u32 (.var 18))) (.var 12))
      (.bind (.ite (.eq (.var 16) (.lit 3)) (.bits .or .u32 (.var 19) (.wrap .u32 (.var 18))) (.var 13))
      (.bind (.ite (.eq (.var 16) (.lit 4)) (.bits .or .u32 (.var 19) (.wrap .u32 (.var 18))) (.var 14))
      (.bind (.ite (.eq (.var 16) (.lit 5)) (.bits .or .u32 (.var 19) (.wrap .u32 (.var 18))) (.var 15))
      (.ite (.lt (.add (.var 16) (.lit 1)) (.lit 6))
       (.need [(.b (.lt (.add (.var 16) (.lit 1)) (.lit 6)))]
       (.bind (.ite (.eq (.add (.var 16) (.lit 1)) (.lit 0)) (.var 20) (.ite (.eq (.add (.var 16) (.lit 1)) (.lit 1)) (.var 21) (.ite (.eq (.add (.var 16) (.lit 1)) (.lit 2)) (.var 22) (.ite (.eq (.add (.var 16) (.lit 1)) (.lit 3)) (.var 23) (.ite (.eq (.add (.var 16) (.lit 1)) (.lit 4)) (.var 24) (.var 25))))))
       (.need [(.b (.lt (.add (.var 16) (.lit 1)) (.lit 6)))]
       (.bind (.ite (.eq (.add (.var 16) (.lit 1)) (.lit 0)) (.bits .or .u32 (.var 26) (.div (.var 18) (.lit 4294967296))) (.var 20))
       (.bind (.ite (.eq (.add (.var 16) (.lit 1)) (.lit 1)) (.bits .or .u32 (.var 26) (.div (.var 18) (.lit 4294967296))) (.var 21))
       (.bind (.ite (.eq (.add (.var 16) (.lit 1)) (.lit 2)) (.bits .or .u32 (.var 26) (.div (.var 18) (.lit 4294967296))) (.var 22))
       (.bind (.ite (.eq (.add (.var 16) (.lit 1)) (.lit 3)) (.bits .or .u32 (.var 26) (.div (.var 18) (.lit 4294967296))) (.var 23))
       (.bind (.ite (.eq (.add (.var 16) (.lit 1)) (.lit 4)) (.bits .or .u32 (.var 26) (.div (.var 18) (.lit 4294967296))) (.var 24))
       (.bind (.ite (.eq (.add (.var 16) (.lit 1)) (.lit 5)) (.bits .or .u32 (.var 26) (.div (.var 18) (.lit 4294967296))) (.var 25))
       (.again 0 9 0 [⟨0, 6⟩, ⟨0, 4294967295⟩, ⟨0, 4294967295⟩, ⟨0, 4294967295⟩, ⟨0, 4294967295⟩, ⟨0, 4294967295⟩, ⟨0, 4294967295⟩] [(.add (.var 9) (.lit 1)), (.var 27), (.var 28), (.var 29), (.var 30), (.var 31), (.var 32)] []))))))))))
       (.again 0 9 0 [⟨0, 6⟩, ⟨0, 4294967295⟩, ⟨0, 4294967295⟩, ⟨0, 4294967295⟩, ⟨0, 4294967295⟩, ⟨0, 4294967295⟩, ⟨0, 4294967295⟩] [(.add (.var 9) (.lit 1)), (.var 20), (.var 21), (.var 22), (.var 23), (.var 24), (.var 25)] [])))))))))))))
     (.fin (.e (.var 10) (.e (.var 11) (.e (.var 12) (.e (.var 13) (.e (.var 14) (.e (.var 15) (.e (.lit 1) .nil))))))))))))
  (.loop 0 [(.lit 0), (.lit 0), (.lit 0), (.lit 0), (.lit 0), (.lit 0), (.lit 0)] [] [⟨0, 6⟩, ⟨0, 4294967295⟩, ⟨0, 4294967295⟩, ⟨0, 4294967295⟩, ⟨0, 4294967295⟩, ⟨0, 4294967295⟩, ⟨0, 4294967295⟩] []
   (.ite (.lt (.var 8) (.lit 6))
    (.bind (.add (.var 8) (.div (.var 6) (.lit 32)))
    (.ite (.le (.lit 6) (.var 15))
     (.fin (.e (.var 9) (.e (.var 10) (.e (.var 11) (.e (.var 12) (.e (.var 13) (.e (.var 14) (.e (.lit 1) .nil))))))))
     (.bind (.ite (.eq (.var 8) (.lit 0)) (.var 0) (.ite (.eq (.var 8) (.lit 1)) (.var 1) (.ite (.eq (.var 8) (.lit 2)) (.var 2) (.ite (.eq (.var 8) (.lit 3)) (.var 3) (.ite (.eq (.var 8) (.lit 4)) (.var 4) (.var 5))))))
     (.bind (.mul (.var 16) (.pow2 (.mod (.var 6) (.lit 32))))
     (.bind (.ite (.eq (.var 15) (.lit 0)) (.var 9) (.ite (.eq (.var 15) (.lit 1)) (.var 10) (.ite (.eq (.var 15) (.lit 2)) (.var 11) (.ite (.eq (.var 15) (.lit 3)) (.var 12) (.ite (.eq (.var 15) (.lit 4)) (.var 13) (.var 14))))))
     (.bind (.ite (.eq (.var 15) (.lit 0)) (.bits .or .u32 (.var 18) (.wrap .u32 (.var 17))) (.var 9))
     (.bind (.ite (.eq (.var 15) (.lit 1)) (.bits .or .u32 (.var 18) (.wrap .u32 (.var 17))) (.var 10))
     (.bind (.ite (.eq (.var 15) (.lit 2)) (.bits .or .u32 (.var 18) (.wrap .u32 (.var 17))) (.var 11))
     (.bind (.ite (.eq (.var 15) (.lit 3)) (.bits .or .u32 (.var 18) (.wrap .u32 (.var 17))) (.var 12))
     (.bind (.ite (.eq (.var 15) (.lit 4)) (.bits .or .u32 (.var 18) (.wrap .u32 (.var 17))) (.var 13))
     (.bind (.ite (.eq (.var 15) (.lit 5)) (.bits .or .u32 (.var 18) (.wrap .u32 (.var 17))) (.var 14))
     (.ite (.lt (.add (.var 15) (.lit 1)) (.lit 6))
      (.need [(.b (.lt (.add (.var 15) (.lit 1)) (.lit 6)))]
      (.bind (.ite (.eq (.add (.var 15) (.lit 1)) (.lit 0)) (.var 19) (.ite (.eq (.add (.var 15) (.lit 1)) (.lit 1)) (.var 20) (.ite (.eq (.add (.var 15) (.lit 1)) (.lit 2)) (.var 21) (.ite (.eq (.add (.var 15) (.lit 1)) (.lit 3)) (.var 22) (.ite (.eq (.add (.var 15) (.lit 1)) (.lit 4)) (.var 23) (.var 24))))))
      (.need [(.b (.lt (.add (.var 15) (.lit 1)) (.lit 6)))]
      (.bind (.ite (.eq (.add (.var 15) (.lit 1)) (.lit 0)) (.bits .or .u32 (.var 25) (.div (.var 17) (.lit 4294967296))) (.var 19))
      (.bind (.ite (.eq (.add (.var 15) (.lit 1)) (.lit 1)) (.bits .or .u32 (.var 25) (.div (.var 17) (.lit 4294967296))) (.var 20))
      (.bind (.ite (.eq (.add (.var 15) (.lit 1)) (.lit 2)) (.bits .or .u32 (.var 25) (.div (.var 17) (.lit 4294967296))) (.var 21))
      (.bind (.ite (.eq (.add (.var 15) (.lit 1)) (.lit 3)) (.bits .or .u32 (.var 25) (.div (.var 17) (.lit 4294967296))) (.var 22))
      (.bind (.ite (.eq (.add (.var 15) (.lit 1)) (.lit 4)) (.bits .or .u32 (.var 25) (.div (.var 17) (.lit 4294967296))) (.var 23))
      (.bind (.ite (.eq (.add (.var 15) (.lit 1)) (.lit 5)) (.bits .or .u32 (.var 25) (.div (.var 17) (.lit 4294967296))) (.var 24))
      (.again 0 8 0 [⟨0, 6⟩, ⟨0, 4294967295⟩, ⟨0, 4294967295⟩, ⟨0, 4294967295⟩, ⟨0, 4294967295⟩, ⟨0, 4294967295⟩, ⟨0, 4294967295⟩] [(.add (.var 8) (.lit 1)), (.var 26), (.var 27), (.var 28), (.var 29), (.var 30), (.var 31)] []))))))))))
      (.again 0 8 0 [⟨0, 6⟩, ⟨0, 4294967295⟩, ⟨0, 4294967295⟩, ⟨0, 4294967295⟩, ⟨0, 4294967295⟩, ⟨0, 4294967295⟩, ⟨0, 4294967295⟩] [(.add (.var 8) (.lit 1)), (.var 19), (.var 20), (.var 21), (.var 22), (.var 23), (.var 24)] [])))))))))))))
    (.fin (.e (.var 9) (.e (.var 10) (.e (.var 11) (.e (.var 12) (.e (.var 13) (.e (.var 14) (.e (.lit 1) .nil))))))))))))
theorem vc38 : vcOfI ⟨c38, [(5, ⟨0, [7], [2], [22, 23, 26, 27, 28, 29, 8, 30, 31, 32, 33, 34, 35, 36, 37, 38, 39, 40, 41, 9, 42, 43, 44, 45, 46, 47, 48, 49, 50, 51, 52, 53, 54, 55, 56, 57, 58, 59, 60, 24, 25], [⟨0, 6⟩, ⟨0, 4294967295⟩, ⟨0, 4294967295⟩, ⟨0, 4294967295⟩, ⟨0, 4294967295⟩, ⟨0, 4294967295⟩, ⟨0, 4294967295⟩], [], []⟩)]⟩ iv38 (parLvs s38.params) 250 Try.f38 s38 = t38 := by kernel_rfl
set_option linter.unusedVariables false in
def p38 (T : Tab) (I : Nat → Env → Env → Prop) (M : Nat → Env → Env → Nat) (pre : Nat → List Int → List (List Int) → Prop) (post : List Int → List (List Int) → Prop) (v0 v1 v2 v3 v4 v5 v6 : Int) : Prop :=
 ∀ v7 : Int, [v7] = T.out 53 1 [v0, v1, v2, v3, v4, v5] →
 ((decide ((192 : Int) < (v7 + v6)) = true →
  ∀ v8 : Int, [v8] = T.out 54 1 [v0, v1, v2, v3, v4, v5] →
  (((!decide ((v8 : Int) = 1)) = true →
   post [0, 0, 0, 0, 0, 0, 0] []) ∧ ((!decide ((v8 : Int) = 1)) = false →
   ((allHas [⟨0, 6⟩, ⟨0, 4294967295⟩, ⟨0, 4294967295⟩, ⟨0, 4294967295⟩, ⟨0, 4294967295⟩, ⟨0, 4294967295⟩, ⟨0, 4294967295⟩] [0, 0, 0, 0, 0, 0, 0] ∧ I 0 ⟨[v0, v1, v2, v3, v4, v5, v6, v7, v8], []⟩ ⟨[0, 0, 0, 0, 0, 0, 0], []⟩) ∧ ∀ v9 v10 v11 v12 v13 v14 v15 : Int, allHas [⟨0, 6⟩, ⟨0, 4294967295⟩, ⟨0, 4294967295⟩, ⟨0, 4294967295⟩, ⟨0, 4294967295⟩, ⟨0, 4294967295⟩, ⟨0, 4294967295⟩] [v9, v10, v11, v12, v13, v14, v15] → I 0 ⟨[v0, v1, v2, v3, v4, v5, v6, v7, v8], []⟩ ⟨[v9, v10, v11, v12, v13, v14, v15], []⟩ →
    ((decide ((v9 : Int) < 6) = true →
     ∀ v16 : Int, v16 = (v9 + (v6 / 32)) →
     ((decide ((6 : Int) ≤ v16) = true →
      post [v10, v11, v12, v13, v14, v15, 1] []) ∧ (decide ((6 : Int) ≤ v16) = false →
      ∀ v17 : Int, v17 = (if decide ((v9 : Int) = 0) = true then v0 else (if decide ((v9 : Int) = 1) = true then v1 else (if decide ((v9 : Int) = 2) = true then v2 else (if decide ((v9 : Int) = 3) = true then v3 else (if decide ((v9 : Int) = 4) = true then v4 else v5))))) →
      ∀ v18 : Int, v18 = (v17 * (2 ^ ((v6 % 32) : Int).toNat)) →
      ∀ v19 : Int, v19 = (if decide ((v16 : Int) = 0) = true then v10 else (if decide ((v16 : Int) = 1) = true then v11 else (if decide ((v16 : Int) = 2) = true then v12 else (if decide ((v16 : Int) = 3) = true then v13 else (if decide ((v16 : Int) = 4) = true then v14 else v15))))) →
      ∀ v20 : Int, v20 = (if decide ((v16 : Int) = 0) = true then (bitsInt .or .u32 v19 (IntKind.wrap .u32 v18)) else v10) →
      ∀ v21 : Int, v21 = (if decide ((v16 : Int) = 1) = true then (bitsInt .or .u32 v19 (IntKind.wrap .u32 v18)) else v11) →
      ∀ v22 : Int, v22 = (if decide ((v16 : Int) = 2) = true then (bitsInt .or .u32 v19 (IntKind.wrap .u32 v18)) else v12) →
      ∀ v23 : Int, v23 = (if decide ((v16 : Int) = 3) = true then (bitsInt .or .u32 v19 (IntKind.wrap .u32 v18)) else v13) →
      ∀ v24 : Int, v24 = (if decide ((v16 : Int) = 4) = true then (bitsInt .or .u32 v19 (IntKind.wrap .u32 v18)) else v14) →
      ∀ v25 : Int, v25 = (if decide ((v16 : Int) = 5) = true then (bitsInt .or .u32 v19 (IntKind.wrap .u32 v18)) else v15) →
      ((decide (((v16 + 1) : Int) < 6) = true →
       ((decide (((v16 + 1) : Int) < 6) = true) ∧ ((decide (((v16 + 1) : Int) < 6) = true) →
       ∀ v26 : Int, v26 = (if decide (((v16 + 1) : Int) = 0) = true then v20 else (if decide (((v16 + 1) : Int) = 1) = true then v21 else (if decide (((v16 + 1) : Int) = 2) = true then v22 else (if decide (((v16 + 1) : Int) = 3) = true then v23 else (if decide (((v16 + 1) : Int) = 4) = true then v24 else v25))))) →
       ((decide (((v16 + 1) : Int) < 6) = true) ∧ ((decide (((v16 + 1) : Int) < 6) = true) →
       ∀ v27 : Int, v27 = (if decide (((v16 + 1) : Int) = 0) = true then (bitsInt .or .u32 v26 (v18 / 4294967296)) else v20) →
       ∀ v28 : Int, v28 = (if decide (((v16 + 1) : Int) = 1) = true then (bitsInt .or .u32 v26 (v18 / 4294967296)) else v21) →
       ∀ v29 : Int, v29 = (if decide (((v16 + 1) : Int) = 2) = true then (bitsInt .or .u32 v26 (v18 / 4294967296)) else v22) →
       ∀ v30 : Int, v30 = (if decide (((v16 + 1) : Int) = 3) = true then (bitsInt .or .u32 v26 (v18 / 4294967296)) else v23) →
       ∀ v31 : Int, v31 = (if decide (((v16 + 1) : Int) = 4) = true then (bitsInt .or .u32 v26 (v18 / 4294967296)) else v24) →
       ∀ v32 : Int, v32 = (if decide (((v16 + 1) : Int) = 5) = true then (bitsInt .or .u32 v26 (v18 / 4294967296)) else v25) →
       (allHas [⟨0, 6⟩, ⟨0, 4294967295⟩, ⟨0, 4294967295⟩, ⟨0, 4294967295⟩, ⟨0, 4294967295⟩, ⟨0, 4294967295⟩, ⟨0, 4294967295⟩] [(v9 + 1), v27, v28, v29, v30, v31, v32] ∧ I 0 ⟨[v0, v1, v2, v3, v4, v5, v6, v7, v8], []⟩ ⟨[(v9 + 1), v27, v28, v29, v30, v31, v32], []⟩ ∧ M 0 ⟨[v0, v1, v2, v3, v4, v5, v6, v7, v8], []⟩ ⟨[(v9 + 1), v27, v28, v29, v30, v31, v32], []⟩ < M 0 ⟨[v0, v1, v2, v3, v4, v5, v6, v7, v8], []⟩ ⟨[v9, v10, v11, v12, v13, v14, v15], []⟩)))))) ∧ (decide (((v16 + 1) : Int) < 6) = false →
       (allHas [⟨0, 6⟩, ⟨0, 4294967295⟩, ⟨0, 4294967295⟩, ⟨0, 4294967295⟩, ⟨0, 4294967295⟩, ⟨0, 4294967295⟩, ⟨0, 4294967295⟩] [(v9 + 1), v20, v21, v22, v23, v24, v25] ∧ I 0 ⟨[v0, v1, v2, v3, v4, v5, v6, v7, v8], []⟩ ⟨[(v9 + 1), v20, v21, v22, v23, v24, v25], []⟩ ∧ M 0 ⟨[v0, v1, v2, v3, v4, v5, v6, v7, v8], []⟩ ⟨[(v9 + 1), v20, v21, v22, v23, v24, v25], []⟩ < M 0 ⟨[v0, v1, v2, v3, v4, v5, v6, v7, v8], []⟩ ⟨[v9, v10, v11, v12, v13, v14, v15], []⟩)))))) ∧ (decide ((v9 : Int) < 6) = false →
     post [v10, v11, v12, v13, v14, v15, 1] [])))))) ∧ (decide ((192 : Int) < (v7 + v6)) = false →
  ((allHas [⟨0, 6⟩, ⟨0, 4294967295⟩, ⟨0, 4294967295⟩, ⟨0, 4294967295⟩, ⟨0, 4294967295⟩, ⟨0, 4294967295⟩, ⟨0, 4294967295⟩] [0, 0, 0, 0, 0, 0, 0] ∧ I 0 ⟨[v0, v1, v2, v3, v4, v5, v6, v7], []⟩ ⟨[0, 0, 0, 0, 0, 0, 0], []⟩) ∧ ∀ v8 v9 v10 v11 v12 v13 v14 : Int, allHas [⟨0, 6⟩, ⟨0, 4294967295⟩, ⟨0, 4294967295⟩, ⟨0, 4294967295⟩, ⟨0, 4294967295⟩, ⟨0, 4294967295⟩, ⟨0, 4294967295⟩] [v8, v9, v10, v11, v12, v13, v14] → I 0 ⟨[v0, v1, v2, v3, v4, v5, v6, v7], []⟩ ⟨[v8, v9, v10, v11, v12, v13, v14], []⟩ →
   ((decide ((v8 : Int) < 6) = true →
    ∀ v15 : Int, v15 = (v8 + (v6 / 32)) →
    ((decide ((6 : Int) ≤ v15) = true →
     post [v9, v10, v11, v12, v13, v14, 1] []) ∧ (decide ((6 : Int) ≤ v15) = false →
     ∀ v16 : Int, v16 = (if decide ((v8 : Int) = 0) = true then v0 else (if decide ((v8 : Int) = 1) = true then v1 else (if decide ((v8 : Int) = 2) = true then v2 else (if decide ((v8 : Int) = 3) = true then v3 else (if decide ((v8 : Int) = 4) = true then v4 else v5))))) →
     ∀ v17 : Int, v17 = (v16 * (2 ^ ((v6 % 32) : Int).toNat)) →
     ∀ v18 : Int, v18 = (if decide ((v15 : Int) = 0) = true then v9 else (if decide ((v15 : Int) = 1) = true then v10 else (if decide ((v15 : Int) = 2) = true then v11 else (if decide ((v15 : Int) = 3) = true then v12 else (if decide ((v15 : Int) = 4) = true then v13 else v14))))) →
     ∀ v19 : Int, v19 = (if decide ((v15 : Int) = 0) = true then (bitsInt .or .u32 v18 (IntKind.wrap .u32 v17)) else v9) →
     ∀ v20 : Int, v20 = (if decide ((v15 : Int) = 1) = true then (bitsInt .or .u32 v18 (IntKind.wrap .u32 v17)) else v10) →
     ∀ v21 : Int, v21 = (if decide ((v15 : Int) = 2) = true then (bitsInt .or .u32 v18 (IntKind.wrap .u32 v17)) else v11) →
     ∀ v22 : Int, v22 = (if decide ((v15 : Int) = 3) = true then (bitsInt .or .u32 v18 (IntKind.wrap .u32 v17)) else v12) →
     ∀ v23 : Int, v23 = (if decide ((v15 : Int) = 4) = true then (bitsInt .or .u32 v18 (IntKind.wrap .u32 v17)) else v13) →
     ∀ v24 : Int, v24 = (if decide ((v15 : Int) = 5) = true then (bitsInt .or .u32 v18 (IntKind.wrap .u32 v17)) else v14) →
     ((decide (((v15 + 1) : Int) < 6) = true →
      ((decide (((v15 + 1) : Int) < 6) = true) ∧ ((decide (((v15 + 1) : Int) < 6) = true) →
      ∀ v25 : Int, v25 = (if decide (((v15 + 1) : Int) = 0) = true then v19 else (if decide (((v15 + 1) : Int) = 1) = true then v20 else (if decide (((v15 + 1) : Int) = 2) = true then v21 else (if decide (((v15 + 1) : Int) = 3) = true then v22 else (if decide (((v15 + 1) : Int) = 4) = true then v23 else v24))))) →
      ((decide (((v15 + 1) : Int) < 6) = true) ∧ ((decide (((v15 + 1) : Int) < 6) = true) →
      ∀ v26 : Int, v26 = (if decide (((v15 + 1) : Int) = 0) = true then (bitsInt .or .u32 v25 (v17 / 4294967296)) else v19) →
      ∀ v27 : Int, v27 = (if decide (((v15 + 1) : Int) = 1) = true then (bitsInt .or .u32 v25 (v17 / 4294967296)) else v20) →
      ∀ v28 : Int, v28 = (if decide (((v15 + 1) : Int) = 2) = true then (bitsInt .or .u32 v25 (v17 / 4294967296)) else v21) →
      ∀ v29 : Int, v29 = (if decide (((v15 + 1) : Int) = 3) = true then (bitsInt .or .u32 v25 (v17 / 4294967296)) else v22) →
      ∀ v30 : Int, v30 = (if decide (((v15 + 1) : Int) = 4) = true then (bitsInt .or .u32 v25 (v17 / 4294967296)) else v23) →
      ∀ v31 : Int, v31 = (if decide (((v15 + 1) : Int) = 5) = true then (bitsInt .or .u32 v25 (v17 / 4294967296)) else v24) →
      (allHas [⟨0, 6⟩, ⟨0, 4294967295⟩, ⟨0, 4294967295⟩, ⟨0, 4294967295⟩, ⟨0, 4294967295⟩, ⟨0, 4294967295⟩, ⟨0, 4294967295⟩] [(v8 + 1), v26, v27, v28, v29, v30, v31] ∧ I 0 ⟨[v0, v1, v2, v3, v4, v5, v6, v7], []⟩ ⟨[(v8 + 1), v26, v27, v28, v29, v30, v31], []⟩ ∧ M 0 ⟨[v0, v1, v2, v3, v4, v5, v6, v7], []⟩ ⟨[(v8 + 1), v26, v27, v28, v29, v30, v31], []⟩ < M 0 ⟨[v0, v1, v2, v3, v4, v5, v6, v7], []⟩ ⟨[v8, v9, v10, v11, v12, v13, v14], []⟩)))))) ∧ (decide (((v15 + 1) : Int) < 6) = false →
      (allHas [⟨0, 6⟩, ⟨0, 4294967295⟩, ⟨0, 4294967295⟩, ⟨0, 4294967295⟩, ⟨0, 4294967295⟩, ⟨0, 4294967295⟩, ⟨0, 4294967295⟩] [(v8 + 1), v19, v20, v21, v22, v23, v24] ∧ I 0 ⟨[v0, v1, v2, v3, v4, v5, v6, v7], []⟩ ⟨[(v8 + 1), v19, v20, v21, v22, v23, v24], []⟩ ∧ M 0 ⟨[v0, v1, v2, v3, v4, v5, v6, v7], []⟩ ⟨[(v8 + 1), v19, v20, v21, v22, v23, v24], []⟩ < M 0 ⟨[v0, v1, v2, v3, v4, v5, v6, v7], []⟩ ⟨[v8, v9, v10, v11, v12, v13, v14], []⟩)))))) ∧ (decide ((v8 : Int) < 6) = false →
    post [v9, v10, v11, v12, v13, v14, 1] [])))))
theorem q38 (T : Tab) (I : Nat → Env → Env → Prop) (M : Nat → Env → Env → Nat) (pre : Nat → List Int → List (List Int) → Prop) (post : List Int → List (List Int) → Prop) (v0 v1 v2 v3 v4 v5 v6 : Int) : t38.plain T (presG pre I M) post ⟨[v0, v1, v2, v3, v4, v5, v6], []⟩ = p38 T I M pre post v0 v1 v2 v3 v4 v5 v6 := by kernel_rfl
theorem k38 (T : Tab) (I : Nat → Env → Env → Prop) (M : Nat → Env → Env → Nat) (pre : Nat → List Int → List (List Int) → Prop) (hs : SubSig T c38.sigs) (ht : TotG pre c38.sigs) (hg : T.sig 38 = some s38) (hC : CtAll Try.prog T.fns (presQ pre) c38.pfs c38.pty c38.cls c38.sigs) (hk : CpAll Try.prog c38.cps) (hi : ∀ xs ls, allHas (parIvs s38.params) xs → pre 38 xs ls → allHas iv38 xs)
    (h : ∀ (v0 v1 v2 v3 v4 v5 v6 : Int), allHas iv38 [v0, v1, v2, v3, v4, v5, v6] → allL (parLvs s38.params) [] → pre 38 [v0, v1, v2, v3, v4, v5, v6] [] → p38 T I M pre (fun ys _ => ys = T.app 38 [v0, v1, v2, v3, v4, v5, v6] []) v0 v1 v2 v3 v4 v5 v6) : CT Try.prog T.fns (presQ pre) 38 s38 :=
  T.ctg (F := ⟨c38, [(5, ⟨0, [7], [2], [22, 23, 26, 27, 28, 29, 8, 30, 31, 32, 33, 34, 35, 36, 37, 38, 39, 40, 41, 9, 42, 43, 44, 45, 46, 47, 48, 49, 50, 51, 52, 53, 54, 55, 56, 57, 58, 59, 60, 24, 25], [⟨0, 6⟩, ⟨0, 4294967295⟩, ⟨0, 4294967295⟩, ⟨0, 4294967295⟩, ⟨0, 4294967295⟩, ⟨0, 4294967295⟩, ⟨0, 4294967295⟩], [], []⟩)]⟩) (fuel := 250) vc38 Try.checked.mixed hs ht hg hC hk Try.func38 I M (fun xs ls h1 h2 h3 => ⟨hi xs ls h1 h3, h2⟩) fun xs ls hx hl hp => by
    match xs, ls, hx, hl, hp with
    | [v0, v1, v2, v3, v4, v5, v6], [], hx, hl, hp => rw [q38]; exact h v0 v1 v2 v3 v4 v5 v6 hx hl hp
/-- loop.example/g01242/laws.toUint32A6 -/
def s20 : Sig := ⟨[.val true [.i .u32, .i .u32, .i .u32, .i .u32, .i .u32, .i .u32]], [(true, [.i .u32, .i .u32, .i .u32, .i .u32, .i .u32, .i .u32])], true⟩
noncomputable def c20 : Cfg := ⟨Try.prog, [], [], [], [], [], [], [], 77, []⟩
def iv20 : List Iv := [⟨0, 4294967295⟩, ⟨0, 4294967295⟩, ⟨0, 4294967295⟩, ⟨0, 4294967295⟩, ⟨0, 4294967295⟩, ⟨0, 4294967295⟩]
def t20 : VC :=
 (.fin (.e (.var 0) (.e (.var 1) (.e (.var 2) (.e (.var 3) (.e (.var 4) (.e (.var 5) .nil)))))))
theorem vc20 : vcOfI ⟨c20, []⟩ iv20 (parLvs s20.params) 250 Try.f20 s20 = t20 := by kernel_rfl
set_option linter.unusedVariables false in
def p20 (T : Tab) (I : Nat → Env → Env → Prop) (M : Nat → Env → Env → Nat) (pre : Nat → List Int → List (List Int) → Prop) (post : List Int → List (List Int) → Prop) (v0 v1 v2 v3 v4 v5 : Int) : Prop :=
 post [v0, v1, v2, v3, v4, v5] []
theorem q20 (T : Tab) (I : Nat → Env → Env → Prop) (M : Nat → Env → Env → Nat) (pre : Nat → List Int → List (List Int) → Prop) (post : List Int → List (List Int) → Prop) (v0 v1 v2 v3 v4 v5 : Int) : t20.plain T (presG pre I M) post ⟨[v0, v1, v2, v3, v4, v5], []⟩ = p20 T I M pre post v0 v1 v2 v3 v4 v5 := by kernel_rfl
theorem k20 (T : Tab) (I : Nat → Env → Env → Prop) (M : Nat → Env → Env → Nat) (pre : Nat → List Int → List (List Int) → Prop) (hs : SubSig T c20.sigs) (ht : TotG pre c20.sigs) (hg : T.sig 20 = some s20) (hC : CtAll Try.prog T.fns (presQ pre) c20.pfs c20.pty c20.cls c20.sigs) (hk : CpAll Try.prog c20.cps) (hi : ∀ xs ls, allHas (parIvs s20.params) xs → pre 20 xs ls → allHas iv20 xs)
    (h : ∀ (v0 v1 v2 v3 v4 v5 : Int), allHas iv20 [v0, v1, v2, v3, v4, v5] → allL (parLvs s20.params) [] → pre 20 [v0, v1, v2, v3, v4, v5] [] → p20 T I M pre (fun ys _ => ys = T.app 20 [v0, v1, v2, v3, v4, v5] []) v0 v1 v2 v3 v4 v5) : CT Try.prog T.fns (presQ pre) 20 s20 :=
  T.ctg (F := ⟨c20, []⟩) (fuel := 250) vc20 Try.checked.mixed hs ht hg hC hk Try.func20 I M (fun xs ls h1 h2 h3 => ⟨hi xs ls h1 h3, h2⟩) fun xs ls hx hl hp => by
    match xs, ls, hx, hl, hp with
    | [v0, v1, v2, v3, v4, v5], [], hx, hl, hp => rw [q20]; exact h v0 v1 v2 v3 v4 v5 hx hl hp
/-- loop.example/g01242/laws.eqUint32A6 -/
def s36 : Sig := ⟨[.val true [.i .u32, .i .u32, .i .u32, .i .u32, .i .u32, .i .u32], .val true [.i .u32, .i .u32, .i .u32, .i .u32, .i .u32, .i .u32]], [(false, [.b])], true⟩
noncomputable def c36 : Cfg := ⟨Try.prog, [], [], [], [], [], [], [], 77, []⟩
def iv36 : List Iv := [⟨0, 4294967295⟩, ⟨0, 4294967295⟩, ⟨0, 4294967295⟩, ⟨0, 4294967295⟩, ⟨0, 4294967295⟩, ⟨0, 4294967295⟩, ⟨0, 4294967295⟩, ⟨0, 4294967295⟩, ⟨0, 4294967295⟩, ⟨0, 4294967295⟩, ⟨0, 4294967295⟩, ⟨0, 4294967295⟩]
def t36 : VC :=
 (.ite (.not (.eq (.var 0) (.var 6)))
  (.fin (.e (.lit 0) .nil))
  (.ite (.not (.eq (.var 1) (.var 7)))
   (.fin (.e (.lit 0) .nil))
   (.ite (.not (.eq (.var 2) (.var 8)))
    (.fin (.e (.lit 0) .nil))
    (.ite (.not (.eq (.var 3) (.var 9)))
     (.fin (.e (.lit 0) .nil))
     (.ite (.not (.eq (.var 4) (.var 10)))
      (.fin (.e (.lit 0) .nil))
      (.ite (.not (.eq (.var 5) (.var 11)))
       (.fin (.e (.lit 0) .nil))
       (.fin (.e (.lit 1) .nil))))))))
theorem vc36 : vcOfI ⟨c36, []⟩ iv36 (parLvs s36.params) 250 Try.f36 s36 = t36 := by kernel_rfl
set_option linter.unusedVariables false in
def p36 (T : Tab) (I : Nat → Env → Env → Prop) (M : Nat → Env → Env → Nat) (pre : Nat → List Int → List (List Int) → Prop) (post : List Int → List (List Int) → Prop) (v0 v1 v2 v3 v4 v5 v6 v7 v8 v9 v10 v11 : Int) : Prop :=
 (((!decide ((v0 : Int) = v6)) = true →
  post [0] []) ∧ ((!decide ((v0 : Int) = v6)) = false →
  (((!decide ((v1 : Int) = v7)) = true →
   post [0] []) ∧ ((!decide ((v1 : Int) = v7)) = false →
   (((!decide ((v2 : Int) = v8)) = true →
    post [0] []) ∧ ((!decide ((v2 : Int) = v8)) = false →
    (((!decide ((v3 : Int) = v9)) = true →
     post [0] []) ∧ ((!decide ((v3 : Int) = v9)) = false →
     (((!decide ((v4 : Int) = v10)) = true →
      post [0] []) ∧ ((!decide ((v4 : Int) = v10)) = false →
      (((!decide ((v5 : Int) = v11)) = true →
       post [0] []) ∧ ((!decide ((v5 : Int) = v11)) = false →
       post [1] []))))))))))))
theorem q36 (T : Tab) (I : Nat → Env → Env → Prop) (M : Nat → Env → Env → Nat) (pre : Nat → List Int → List (List Int) → Prop) (post : List Int → List (List Int) → Prop) (v0 v1 v2 v3 v4 v5 v6 v7 v8 v9 v10 v11 : Int) : t36.plain T (presG pre I M) post ⟨[v0, v1, v2, v3, v4, v5, v6, v7, v8, v9, v10, v11], []⟩ = p36 T I M pre post v0 v1 v2 v3 v4 v5 v6 v7 v8 v9 v10 v11 := by kernel_rfl
theorem k36 (T : Tab) (I : Nat → Env → Env → Prop) (M : Nat → Env → Env → Nat) (pre : Nat → List Int → List (List Int) → Prop) (hs : SubSig T c36.sigs) (ht : TotG pre c36.sigs) (hg : T.sig 36 = some s36) (hC : CtAll Try.prog T.fns (presQ pre) c36.pfs c36.pty c36.cls c36.sigs) (hk : CpAll Try.prog c36.cps) (hi : ∀ xs ls, allHas (parIvs s36.params) xs → pre 36 xs ls → allHas iv36 xs)
    (h : ∀ (v0 v1 v2 v3 v4 v5 v6 v7 v8 v9 v10 v11 : Int), allHas iv36 [v0, v1, v2, v3, v4, v5, v6, v7, v8, v9, v10, v11] → allL (parLvs s36.params) [] → pre 36 [v0, v1, v2, v3, v4, v5, v6, v7, v8, v9, v10, v11] [] → p36 T I M pre (fun ys _ => ys = T.app 36 [v0, v1, v2, v3, v4, v5, v6, v7, v8, v9, v10, v11] []) v0 v1 v2 v3 v4 v5 v6 v7 v8 v9 v10 v11) : CT Try.prog T.fns (presQ pre) 36 s36 :=
  T.ctg (F := ⟨c36, []⟩) (fuel := 250) vc36 Try.checked.mixed hs ht hg hC hk Try.func36 I M (fun xs ls h1 h2 h3 => ⟨hi xs ls h1 h3, h2⟩) fun xs ls hx hl hp => by
    match xs, ls, hx, hl, hp with
    | [v0, v1, v2, v3, v4, v5, v6, v7, v8, v9, v10, v11], [], hx, hl, hp => rw [q36]; exact h v0 v1 v2 v3 v4 v5 v6 v7 v8 v9 v10 v11 hx hl hp
end Go.Proofs.Ytpghmmklbhobmaa.Sx
