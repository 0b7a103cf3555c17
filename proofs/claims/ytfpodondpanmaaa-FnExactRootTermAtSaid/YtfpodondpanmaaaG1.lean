import Derived.Test.YtfpodondpanmaaaSxX
import Derived.Test.YtfpodondpanmaaaChecked
import Derived.KernelRfl
namespace Go.Proofs.Ytfpodondpanmaaa.Sx
open Go Go.RowKit
/-- (loop.example/g01242/impl.limbs).used -/
def s89 : Sig := ⟨[.val true [.i .u32, .i .u32, .i .u32, .i .u32, .i .u32, .i .u32]], [(false, [.n .i64 0 1])], false⟩
noncomputable def c89 : Cfg := ⟨Try.prog, [], [], [], [], []⟩
def iv89 : List Iv := [⟨0, 2000000⟩, ⟨0, 0⟩, ⟨0, 0⟩, ⟨0, 0⟩, ⟨0, 0⟩, ⟨0, 0⟩]
def t89 : VC :=
 (.ite (.eq (.var 0) (.lit 0))
  (.fin (.e (.lit 0) .nil))
  (.fin (.e (.lit 1) .nil)))
theorem vc89 : vcOfI ⟨c89, []⟩ iv89 (parLvs s89.params) 250 Try.f89 s89 = t89 := by kernel_rfl
set_option linter.unusedVariables false in
def p89 (T : Tab) (I : Nat → Env → Env → Prop) (M : Nat → Env → Env → Nat) (pre : Nat → List Int → List (List Int) → Prop) (post : List Int → List (List Int) → Prop) (v0 v1 v2 v3 v4 v5 : Int) : Prop :=
 ((decide ((v0 : Int) = 0) = true →
  post [0] []) ∧ (decide ((v0 : Int) = 0) = false →
  post [1] []))
theorem q89 (T : Tab) (I : Nat → Env → Env → Prop) (M : Nat → Env → Env → Nat) (pre : Nat → List Int → List (List Int) → Prop) (post : List Int → List (List Int) → Prop) (v0 v1 v2 v3 v4 v5 : Int) : t89.plain T (presG pre I M) post ⟨[v0, v1, v2, v3, v4, v5], []⟩ = p89 T I M pre post v0 v1 v2 v3 v4 v5 := by kernel_rfl
theorem k89 (T : Tab) (I : Nat → Env → Env → Prop) (M : Nat → Env → Env → Nat) (pre : Nat → List Int → List (List Int) → Prop) (hs : SubSig T c89.sigs) (ht : TotG pre c89.sigs) (hg : T.sig 89 = some s89) (hC : CtAll Try.prog T.fns (presQ pre) c89.sigs) (hk : CpAll Try.prog c89.cps) (hi : ∀ xs ls, allHas (parIvs s89.params) xs → pre 89 xs ls → allHas iv89 xs)
    (h : ∀ (v0 v1 v2 v3 v4 v5 : Int), allHas iv89 [v0, v1, v2, v3, v4, v5] → allL (parLvs s89.params) [] → pre 89 [v0, v1, v2, v3, v4, v5] [] → p89 T I M pre (fun ys _ => ys = T.app 89 [v0, v1, v2, v3, v4, v5] []) v0 v1 v2 v3 v4 v5) : CT Try.prog T.fns (presQ pre) 89 s89 :=
  T.ctg (F := ⟨c89, []⟩) (fuel := 250) vc89 Try.checked.mixed hs ht hg hC hk Try.func89 I M (fun xs ls h1 h2 h3 => ⟨hi xs ls h1 h3, h2⟩) fun xs ls hx hl hp => by
    match xs, ls, hx, hl, hp with
    | [v0, v1, v2, v3, v4, v5], [], hx, hl, hp => rw [q89]; exact h v0 v1 v2 v3 v4 v5 hx hl hp
/-- (loop.example/g01242/impl.limbs).isZero -/
def s83 : Sig := ⟨[.val true [.i .u32, .i .u32, .i .u32, .i .u32, .i .u32, .i .u32]], [(false, [.b])], false⟩
noncomputable def c83 : Cfg := ⟨Try.prog, [], [], [], [], []⟩
def iv83 : List Iv := [⟨0, 2000000⟩, ⟨0, 0⟩, ⟨0, 0⟩, ⟨0, 0⟩, ⟨0, 0⟩, ⟨0, 0⟩]
def t83 : VC :=
 (.fin (.e (.ite (.eq (.var 0) (.lit 0)) (.lit 1) (.lit 0)) .nil))
theorem vc83 : vcOfI ⟨c83, []⟩ iv83 (parLvs s83.params) 250 Try.f83 s83 = t83 := by kernel_rfl
set_option linter.unusedVariables false in
def p83 (T : Tab) (I : Nat → Env → Env → Prop) (M : Nat → Env → Env → Nat) (pre : Nat → List Int → List (List Int) → Prop) (post : List Int → List (List Int) → Prop) (v0 v1 v2 v3 v4 v5 : Int) : Prop :=
 post [(if decide ((v0 : Int) = 0) = true then 1 else 0)] []
theorem q83 (T : Tab) (I : Nat → Env → Env → Prop) (M : Nat → Env → Env → Nat) (pre : Nat → List Int → List (List Int) → Prop) (post : List Int → List (List Int) → Prop) (v0 v1 v2 v3 v4 v5 : Int) : t83.plain T (presG pre I M) post ⟨[v0, v1, v2, v3, v4, v5], []⟩ = p83 T I M pre post v0 v1 v2 v3 v4 v5 := by kernel_rfl
theorem k83 (T : Tab) (I : Nat → Env → Env → Prop) (M : Nat → Env → Env → Nat) (pre : Nat → List Int → List (List Int) → Prop) (hs : SubSig T c83.sigs) (ht : TotG pre c83.sigs) (hg : T.sig 83 = some s83) (hC : CtAll Try.prog T.fns (presQ pre) c83.sigs) (hk : CpAll Try.prog c83.cps) (hi : ∀ xs ls, allHas (parIvs s83.params) xs → pre 83 xs ls → allHas iv83 xs)
    (h : ∀ (v0 v1 v2 v3 v4 v5 : Int), allHas iv83 [v0, v1, v2, v3, v4, v5] → allL (parLvs s83.params) [] → pre 83 [v0, v1, v2, v3, v4, v5] [] → p83 T I M pre (fun ys _ => ys = T.app 83 [v0, v1, v2, v3, v4, v5] []) v0 v1 v2 v3 v4 v5) : CT Try.prog T.fns (presQ pre) 83 s83 :=
  T.ctg (F := ⟨c83, []⟩) (fuel := 250) vc83 Try.checked.mixed hs ht hg hC hk Try.func83 I M (fun xs ls h1 h2 h3 => ⟨hi xs ls h1 h3, h2⟩) fun xs ls hx hl hp => by
    match xs, ls, hx, hl, hp with
    | [v0, v1, v2, v3, v4, v5], [], hx, hl, hp => rw [q83]; exact h v0 v1 v2 v3 v4 v5 hx hl hp
/-- (loop.example/g01242/impl.limbs).compare -/
def s78 : Sig := ⟨[.val true [.i .u32, .i .u32, .i .u32, .i .u32, .i .u32, .i .u32], .val true [.i .u32, .i .u32, .i .u32, .i .u32, .i .u32, .i .u32]], [(false, [.n .i64 (-1) 1])], false⟩
noncomputable def c78 : Cfg := ⟨Try.prog, [], [], [], [], []⟩
def iv78 : List Iv := [⟨0, 2000000⟩, ⟨0, 0⟩, ⟨0, 0⟩, ⟨0, 0⟩, ⟨0, 0⟩, ⟨0, 0⟩, ⟨0, 2000000⟩, ⟨0, 0⟩, ⟨0, 0⟩, ⟨0, 0⟩, ⟨0, 0⟩, ⟨0, 0⟩]
def t78 : VC :=
 (.ite (.eq (.var 0) (.var 6))
  (.fin (.e (.lit 0) .nil))
  (.ite (.lt (.var 0) (.var 6))
   (.fin (.e (.lit (-1)) .nil))
   (.fin (.e (.lit 1) .nil))))
theorem vc78 : vcOfI ⟨c78, []⟩ iv78 (parLvs s78.params) 250 Try.f78 s78 = t78 := by kernel_rfl
set_option linter.unusedVariables false in
def p78 (T : Tab) (I : Nat → Env → Env → Prop) (M : Nat → Env → Env → Nat) (pre : Nat → List Int → List (List Int) → Prop) (post : List Int → List (List Int) → Prop) (v0 v1 v2 v3 v4 v5 v6 v7 v8 v9 v10 v11 : Int) : Prop :=
 ((decide ((v0 : Int) = v6) = true →
  post [0] []) ∧ (decide ((v0 : Int) = v6) = false →
  ((decide ((v0 : Int) < v6) = true →
   post [(-1)] []) ∧ (decide ((v0 : Int) < v6) = false →
   post [1] []))))
theorem q78 (T : Tab) (I : Nat → Env → Env → Prop) (M : Nat → Env → Env → Nat) (pre : Nat → List Int → List (List Int) → Prop) (post : List Int → List (List Int) → Prop) (v0 v1 v2 v3 v4 v5 v6 v7 v8 v9 v10 v11 : Int) : t78.plain T (presG pre I M) post ⟨[v0, v1, v2, v3, v4, v5, v6, v7, v8, v9, v10, v11], []⟩ = p78 T I M pre post v0 v1 v2 v3 v4 v5 v6 v7 v8 v9 v10 v11 := by kernel_rfl
theorem k78 (T : Tab) (I : Nat → Env → Env → Prop) (M : Nat → Env → Env → Nat) (pre : Nat → List Int → List (List Int) → Prop) (hs : SubSig T c78.sigs) (ht : TotG pre c78.sigs) (hg : T.sig 78 = some s78) (hC : CtAll Try.prog T.fns (presQ pre) c78.sigs) (hk : CpAll Try.prog c78.cps) (hi : ∀ xs ls, allHas (parIvs s78.params) xs → pre 78 xs ls → allHas iv78 xs)
    (h : ∀ (v0 v1 v2 v3 v4 v5 v6 v7 v8 v9 v10 v11 : Int), allHas iv78 [v0, v1, v2, v3, v4, v5, v6, v7, v8, v9, v10, v11] → allL (parLvs s78.params) [] → pre 78 [v0, v1, v2, v3, v4, v5, v6, v7, v8, v9, v10, v11] [] → p78 T I M pre (fun ys _ => ys = T.app 78 [v0, v1, v2, v3, v4, v5, v6, v7, v8, v9, v10, v11] []) v0 v1 v2 v3 v4 v5 v6 v7 v8 v9 v10 v11) : CT Try.prog T.fns (presQ pre) 78 s78 :=
  T.ctg (F := ⟨c78, []⟩) (fuel := 250) vc78 Try.checked.mixed hs ht hg hC hk Try.func78 I M (fun xs ls h1 h2 h3 => ⟨hi xs ls h1 h3, h2⟩) fun xs ls hx hl hp => by
    match xs, ls, hx, hl, hp with
    | [v0, v1, v2, v3, v4, v5, v6, v7, v8, v9, v10, v11], [], hx, hl, hp => rw [q78]; exact h v0 v1 v2 v3 v4 v5 v6 v7 v8 v9 v10 v11 hx hl hp
/-- (loop.example/g01242/impl.limbs).plus -/
def s87 : Sig := ⟨[.val true [.i .u32, .i .u32, .i .u32, .i .u32, .i .u32, .i .u32], .val true [.i .u32, .i .u32, .i .u32, .i .u32, .i .u32, .i .u32]], [(true, [.i .u32, .i .u32, .i .u32, .i .u32, .i .u32, .i .u32]), (false, [.b])], false⟩
noncomputable def c87 : Cfg := ⟨Try.prog, [], [], [], [], []⟩
def iv87 : List Iv := [⟨0, 2000000⟩, ⟨0, 0⟩, ⟨0, 0⟩, ⟨0, 0⟩, ⟨0, 0⟩, ⟨0, 0⟩, ⟨0, 2000000⟩, ⟨0, 0⟩, ⟨0, 0⟩, ⟨0, 0⟩, ⟨0, 0⟩, ⟨0, 0⟩]
def t87 : VC :=
 (.bind (.add (.var 0) (.var 6))
 (.bind (.div (.var 12) (.lit 4294967296))
 (.fin (.e (.var 12) (.e (.lit 0) (.e (.lit 0) (.e (.lit 0) (.e (.lit 0) (.e (.lit 0) (.e (.lit 0) .nil))))))))))
theorem vc87 : vcOfI ⟨c87, []⟩ iv87 (parLvs s87.params) 250 Try.f87 s87 = t87 := by kernel_rfl
set_option linter.unusedVariables false in
def p87 (T : Tab) (I : Nat → Env → Env → Prop) (M : Nat → Env → Env → Nat) (pre : Nat → List Int → List (List Int) → Prop) (post : List Int → List (List Int) → Prop) (v0 v1 v2 v3 v4 v5 v6 v7 v8 v9 v10 v11 : Int) : Prop :=
 ∀ v12 : Int, v12 = (v0 + v6) →
 ∀ v13 : Int, v13 = (v12 / 4294967296) →
 post [v12, 0, 0, 0, 0, 0, 0] []
theorem q87 (T : Tab) (I : Nat → Env → Env → Prop) (M : Nat → Env → Env → Nat) (pre : Nat → List Int → List (List Int) → Prop) (post : List Int → List (List Int) → Prop) (v0 v1 v2 v3 v4 v5 v6 v7 v8 v9 v10 v11 : Int) : t87.plain T (presG pre I M) post ⟨[v0, v1, v2, v3, v4, v5, v6, v7, v8, v9, v10, v11], []⟩ = p87 T I M pre post v0 v1 v2 v3 v4 v5 v6 v7 v8 v9 v10 v11 := by kernel_rfl
theorem k87 (T : Tab) (I : Nat → Env → Env → Prop) (M : Nat → Env → Env → Nat) (pre : Nat → List Int → List (List Int) → Prop) (hs : SubSig T c87.sigs) (ht : TotG pre c87.sigs) (hg : T.sig 87 = some s87) (hC : CtAll Try.prog T.fns (presQ pre) c87.sigs) (hk : CpAll Try.prog c87.cps) (hi : ∀ xs ls, allHas (parIvs s87.params) xs → pre 87 xs ls → allHas iv87 xs)
    (h : ∀ (v0 v1 v2 v3 v4 v5 v6 v7 v8 v9 v10 v11 : Int), allHas iv87 [v0, v1, v2, v3, v4, v5, v6, v7, v8, v9, v10, v11] → allL (parLvs s87.params) [] → pre 87 [v0, v1, v2, v3, v4, v5, v6, v7, v8, v9, v10, v11] [] → p87 T I M pre (fun ys _ => ys = T.app 87 [v0, v1, v2, v3, v4, v5, v6, v7, v8, v9, v10, v11] []) v0 v1 v2 v3 v4 v5 v6 v7 v8 v9 v10 v11) : CT Try.prog T.fns (presQ pre) 87 s87 :=
  T.ctg (F := ⟨c87, []⟩) (fuel := 250) vc87 Try.checked.mixed hs ht hg hC hk Try.func87 I M (fun xs ls h1 h2 h3 => ⟨hi xs ls h1 h3, h2⟩) fun xs ls hx hl hp => by
    match xs, ls, hx, hl, hp with
    | [v0, v1, v2, v3, v4, v5, v6, v7, v8, v9, v10, v11], [], hx, hl, hp => rw [q87]; exact h v0 v1 v2 v3 v4 v5 v6 v7 v8 v9 v10 v11 hx hl hp
/-- (loop.example/g01242/impl.limbs).up -/
def s84 : Sig := ⟨[.val true [.i .u32, .i .u32, .i .u32, .i .u32, .i .u32, .i .u32], .val false [.i .i64]], [(true, [.i .u32, .i .u32, .i .u32, .i .u32, .i .u32, .i .u32])], false⟩
noncomputable def c84 : Cfg := ⟨Try.prog, [], [], [], [], []⟩
def iv84 : List Iv := [⟨0, 1⟩, ⟨0, 0⟩, ⟨0, 0⟩, ⟨0, 0⟩, ⟨0, 0⟩, ⟨0, 0⟩, ⟨0, 10⟩]
def t84 : VC :=
 (.bind (.mod (.var 6) (.lit 32))
 (.bind (.mul (.var 0) (.pow2 (.var 7)))
 (.bind (.bits .or .u32 (.lit 0) (.div (.var 0) (.pow2 (.sub (.lit 32) (.var 7)))))
 (.bind (.bits .or .u32 (.lit 0) (.div (.var 1) (.pow2 (.sub (.lit 32) (.var 7)))))
 (.bind (.bits .or .u32 (.lit 0) (.div (.var 2) (.pow2 (.sub (.lit 32) (.var 7)))))
 (.bind (.bits .or .u32 (.lit 0) (.div (.var 3) (.pow2 (.sub (.lit 32) (.var 7)))))
 (.bind (.bits .or .u32 (.lit 0) (.div (.var 4) (.pow2 (.sub (.lit 32) (.var 7)))))
 (.fin (.e (.var 8) (.e (.var 9) (.e (.var 10) (.e (.var 11) (.e (.var 12) (.e (.var 13) .nil))))))))))))))
theorem vc84 : vcOfI ⟨c84, []⟩ iv84 (parLvs s84.params) 250 Try.f84 s84 = t84 := by kernel_rfl
set_option linter.unusedVariables false in
def p84 (T : Tab) (I : Nat → Env → Env → Prop) (M : Nat → Env → Env → Nat) (pre : Nat → List Int → List (List Int) → Prop) (post : List Int → List (List Int) → Prop) (v0 v1 v2 v3 v4 v5 v6 : Int) : Prop :=
 ∀ v7 : Int, v7 = (v6 % 32) →
 ∀ v8 : Int, v8 = (v0 * (2 ^ (v7 : Int).toNat)) →
 ∀ v9 : Int, v9 = (bitsInt .or .u32 0 (v0 / (2 ^ ((32 - v7) : Int).toNat))) →
 ∀ v10 : Int, v10 = (bitsInt .or .u32 0 (v1 / (2 ^ ((32 - v7) : Int).toNat))) →
 ∀ v11 : Int, v11 = (bitsInt .or .u32 0 (v2 / (2 ^ ((32 - v7) : Int).toNat))) →
 ∀ v12 : Int, v12 = (bitsInt .or .u32 0 (v3 / (2 ^ ((32 - v7) : Int).toNat))) →
 ∀ v13 : Int, v13 = (bitsInt .or .u32 0 (v4 / (2 ^ ((32 - v7) : Int).toNat))) →
 post [v8, v9, v10, v11, v12, v13] []
theorem q84 (T : Tab) (I : Nat → Env → Env → Prop) (M : Nat → Env → Env → Nat) (pre : Nat → List Int → List (List Int) → Prop) (post : List Int → List (List Int) → Prop) (v0 v1 v2 v3 v4 v5 v6 : Int) : t84.plain T (presG pre I M) post ⟨[v0, v1, v2, v3, v4, v5, v6], []⟩ = p84 T I M pre post v0 v1 v2 v3 v4 v5 v6 := by kernel_rfl
theorem k84 (T : Tab) (I : Nat → Env → Env → Prop) (M : Nat → Env → Env → Nat) (pre : Nat → List Int → List (List Int) → Prop) (hs : SubSig T c84.sigs) (ht : TotG pre c84.sigs) (hg : T.sig 84 = some s84) (hC : CtAll Try.prog T.fns (presQ pre) c84.sigs) (hk : CpAll Try.prog c84.cps) (hi : ∀ xs ls, allHas (parIvs s84.params) xs → pre 84 xs ls → allHas iv84 xs)
    (h : ∀ (v0 v1 v2 v3 v4 v5 v6 : Int), allHas iv84 [v0, v1, v2, v3, v4, v5, v6] → allL (parLvs s84.params) [] → pre 84 [v0, v1, v2, v3, v4, v5, v6] [] → p84 T I M pre (fun ys _ => ys = T.app 84 [v0, v1, v2, v3, v4, v5, v6] []) v0 v1 v2 v3 v4 v5 v6) : CT Try.prog T.fns (presQ pre) 84 s84 :=
  T.ctg (F := ⟨c84, []⟩) (fuel := 250) vc84 Try.checked.mixed hs ht hg hC hk Try.func84 I M (fun xs ls h1 h2 h3 => ⟨hi xs ls h1 h3, h2⟩) fun xs ls hx hl hp => by
    match xs, ls, hx, hl, hp with
    | [v0, v1, v2, v3, v4, v5, v6], [], hx, hl, hp => rw [q84]; exact h v0 v1 v2 v3 v4 v5 v6 hx hl hp
/-- (loop.example/g01242/impl.limbs).down -/
def s88 : Sig := ⟨[.val true [.i .u32, .i .u32, .i .u32, .i .u32, .i .u32, .i .u32], .val false [.i .i64]], [(true, [.i .u32, .i .u32, .i .u32, .i .u32, .i .u32, .i .u32])], false⟩
noncomputable def c88 : Cfg := ⟨Try.prog, [], [], [], [], []⟩
def iv88 : List Iv := [⟨0, 4000000⟩, ⟨0, 0⟩, ⟨0, 0⟩, ⟨0, 0⟩, ⟨0, 0⟩, ⟨0, 0⟩, ⟨0, 1⟩]
def t88 : VC :=
 (.bind (.mod (.var 6) (.lit 32))
 (.bind (.div (.var 0) (.pow2 (.var 7)))
 (.bind (.bits .or .u32 (.var 8) (.lit 0))
 (.bind (.div (.var 1) (.pow2 (.var 7)))
 (.bind (.bits .or .u32 (.var 10) (.lit 0))
 (.bind (.div (.var 2) (.pow2 (.var 7)))
 (.bind (.bits .or .u32 (.var 12) (.lit 0))
 (.bind (.div (.var 3) (.pow2 (.var 7)))
 (.bind (.bits .or .u32 (.var 14) (.lit 0))
 (.bind (.div (.var 4) (.pow2 (.var 7)))
 (.bind (.bits .or .u32 (.var 16) (.lit 0))
 (.bind (.div (.var 5) (.pow2 (.var 7)))
 (.fin (.e (.var 9) (.e (.var 11) (.e (.var 13) (.e (.var 15) (.e (.var 17) (.e (.var 18) .nil)))))))))))))))))))
theorem vc88 : vcOfI ⟨c88, []⟩ iv88 (parLvs s88.params) 250 Try.f88 s88 = t88 := by kernel_rfl
set_option linter.unusedVariables false in
def p88 (T : Tab) (I : Nat → Env → Env → Prop) (M : Nat → Env → Env → Nat) (pre : Nat → List Int → List (List Int) → Prop) (post : List Int → List (List Int) → Prop) (v0 v1 v2 v3 v4 v5 v6 : Int) : Prop :=
 ∀ v7 : Int, v7 = (v6 % 32) →
 ∀ v8 : Int, v8 = (v0 / (2 ^ (v7 : Int).toNat)) →
 ∀ v9 : Int, v9 = (bitsInt .or .u32 v8 0) →
 ∀ v10 : Int, v10 = (v1 / (2 ^ (v7 : Int).toNat)) →
 ∀ v11 : Int, v11 = (bitsInt .or .u32 v10 0) →
 ∀ v12 : Int, v12 = (v2 / (2 ^ (v7 : Int).toNat)) →
 ∀ v13 : Int, v13 = (bitsInt .or .u32 v12 0) →
 ∀ v14 : Int, v14 = (v3 / (2 ^ (v7 : Int).toNat)) →
 ∀ v15 : Int, v15 = (bitsInt .or .u32 v14 0) →
 ∀ v16 : Int, v16 = (v4 / (2 ^ (v7 : Int).toNat)) →
 ∀ v17 : Int, v17 = (bitsInt .or .u32 v16 0) →
 ∀ v18 : Int, v18 = (v5 / (2 ^ (v7 : Int).toNat)) →
 post [v9, v11, v13, v15, v17, v18] []
theorem q88 (T : Tab) (I : Nat → Env → Env → Prop) (M : Nat → Env → Env → Nat) (pre : Nat → List Int → List (List Int) → Prop) (post : List Int → List (List Int) → Prop) (v0 v1 v2 v3 v4 v5 v6 : Int) : t88.plain T (presG pre I M) post ⟨[v0, v1, v2, v3, v4, v5, v6], []⟩ = p88 T I M pre post v0 v1 v2 v3 v4 v5 v6 := by kernel_rfl
theorem k88 (T : Tab) (I : Nat → Env → Env → Prop) (M : Nat → Env → Env → Nat) (pre : Nat → List Int → List (List Int) → Prop) (hs : SubSig T c88.sigs) (ht : TotG pre c88.sigs) (hg : T.sig 88 = some s88) (hC : CtAll Try.prog T.fns (presQ pre) c88.sigs) (hk : CpAll Try.prog c88.cps) (hi : ∀ xs ls, allHas (parIvs s88.params) xs → pre 88 xs ls → allHas iv88 xs)
    (h : ∀ (v0 v1 v2 v3 v4 v5 v6 : Int), allHas iv88 [v0, v1, v2, v3, v4, v5, v6] → allL (parLvs s88.params) [] → pre 88 [v0, v1, v2, v3, v4, v5, v6] [] → p88 T I M pre (fun ys _ => ys = T.app 88 [v0, v1, v2, v3, v4, v5, v6] []) v0 v1 v2 v3 v4 v5 v6) : CT Try.prog T.fns (presQ pre) 88 s88 :=
  T.ctg (F := ⟨c88, []⟩) (fuel := 250) vc88 Try.checked.mixed hs ht hg hC hk Try.func88 I M (fun xs ls h1 h2 h3 => ⟨hi xs ls h1 h3, h2⟩) fun xs ls hx hl hp => by
    match xs, ls, hx, hl, hp with
    | [v0, v1, v2, v3, v4, v5, v6], [], hx, hl, hp => rw [q88]; exact h v0 v1 v2 v3 v4 v5 v6 hx hl hp
/-- math/bits.Len32 -/
def s90 : Sig := ⟨[.val false [.i .u32]], [(false, [.n .i64 0 24])], false⟩
noncomputable def c90 : Cfg := ⟨Try.prog, [], [], [], [], []⟩
def iv90 : List Iv := [⟨0, 1000000⟩]
def t90 : VC :=
 (.ite (.le (.lit 65536) (.var 0))
  (.bind (.div (.var 0) (.lit 65536))
  (.need [(.b (.lt (.var 1) (.len (.lit [0, 1, 2, 2, 3, 3, 3, 3, 4, 4, 4, 4, 4, 4, 4, 4, 5, 5, 5, 5, 5, 5, 5, 5, 5, 5, 5, 5, 5, 5, 5, 5, 6, 6, 6, 6, 6, 6, 6, 6, 6, 6, 6, 6, 6, 6, 6, 6, 6, 6, 6, 6, 6, 6, 6, 6, 6, 6, 6, 6, 6, 6, 6, 6, 7, 7, 7, 7, 7, 7, 7, 7, 7, 7, 7, 7, 7, 7, 7, 7, 7, 7, 7, 7, 7, 7, 7, 7, 7, 7, 7, 7, 7, 7, 7, 7, 7, 7, 7, 7, 7, 7, 7, 7, 7, 7, 7, 7, 7, 7, 7, 7, 7, 7, 7, 7, 7, 7, 7, 7, 7, 7, 7, 7, 7, 7, 7, 7, 8, 8, 8, 8, 8, 8, 8, 8, 8, 8, 8, 8, 8, 8, 8, 8, 8, 8, 8, 8, 8, 8, 8, 8, 8, 8, 8, 8, 8, 8, 8, 8, 8, 8, 8, 8, 8, 8, 8, 8, 8, 8, 8, 8, 8, 8, 8, 8, 8, 8, 8, 8, 8, 8, 8, 8, 8, 8, 8, 8, 8, 8, 8, 8, 8, 8, 8, 8, 8, 8, 8, 8, 8, 8, 8, 8, 8, 8, 8, 8, 8, 8, 8, 8, 8, 8, 8, 8, 8, 8, 8, 8, 8, 8, 8, 8, 8, 8, 8, 8, 8, 8, 8, 8, 8, 8, 8, 8, 8, 8, 8, 8, 8, 8, 8, 8, 8, 8, 8, 8, 8, 8, 8, 8, 8, 8, 8, 8]))))]
  (.bind (.add (.lit 16) (.at (.lit [0, 1, 2, 2, 3, 3, 3, 3, 4, 4, 4, 4, 4, 4, 4, 4, 5, 5, 5, 5, 5, 5, 5, 5, 5, 5, 5, 5, 5, 5, 5, 5, 6, 6, 6, 6, 6, 6, 6, 6, 6, 6, 6, 6, 6, 6, 6, 6, 6, 6, 6, 6, 6, 6, 6, 6, 6, 6, 6, 6, 6, 6, 6, 6, 7, 7, 7, 7, 7, 7, 7, 7, 7, 7, 7, 7, 7, 7, 7, 7, 7, 7, 7, 7, 7, 7, 7, 7, 7, 7, 7, 7, 7, 7, 7, 7, 7, 7, 7, 7, 7, 7, 7, 7, 7, 7, 7, 7, 7, 7, 7, 7, 7, 7, 7, 7, 7, 7, 7, 7, 7, 7, 7, 7, 7, 7, 7, 7, 8, 8, 8, 8, 8, 8, 8, 8, 8, 8, 8, 8, 8, 8, 8, 8, 8, 8, 8, 8, 8, 8, 8, 8, 8, 8, 8, 8, 8, 8, 8, 8, 8, 8, 8, 8, 8, 8, 8, 8, 8, 8, 8, 8, 8, 8, 8, 8, 8, 8, 8, 8, 8, 8, 8, 8, 8, 8, 8, 8, 8, 8, 8, 8, 8, 8, 8, 8, 8, 8, 8, 8, 8, 8, 8, 8, 8, 8, 8, 8, 8, 8, 8, 8, 8, 8, 8, 8, 8, 8, 8, 8, 8, 8, 8, 8, 8, 8, 8, 8, 8, 8, 8, 8, 8, 8, 8, 8, 8, 8, 8, 8, 8, 8, 8, 8, 8, 8, 8, 8, 8, 8, 8, 8, 8, 8, 8, 8]) (.var 1)))
  (.fin (.e (.var 2) .nil)))))
  (.ite (.le (.lit 256) (.var 0))
   (.bind (.div (.var 0) (.lit 256))
   (.need [(.b (.lt (.var 1) (.len (.lit [0, 1, 2, 2, 3, 3, 3, 3, 4, 4, 4, 4, 4, 4, 4, 4, 5, 5, 5, 5, 5, 5, 5, 5, 5, 5, 5, 5, 5, 5, 5, 5, 6, 6, 6, 6, 6, 6, 6, 6, 6, 6, 6, 6, 6, 6, 6, 6, 6, 6, 6, 6, 6, 6, 6, 6, 6, 6, 6, 6, 6, 6, 6, 6, 7, 7, 7, 7, 7, 7, 7, 7, 7, 7, 7, 7, 7, 7, 7, 7, 7, 7, 7, 7, 7, 7, 7, 7, 7, 7, 7, 7, 7, 7, 7, 7, 7, 7, 7, 7, 7, 7, 7, 7, 7, 7, 7, 7, 7, 7, 7, 7, 7, 7, 7, 7, 7, 7, 7, 7, 7, 7, 7, 7, 7, 7, 7, 7, 8, 8, 8, 8, 8, 8, 8, 8, 8, 8, 8, 8, 8, 8, 8, 8, 8, 8, 8, 8, 8, 8, 8, 8, 8, 8, 8, 8, 8, 8, 8, 8, 8, 8, 8, 8, 8, 8, 8, 8, 8, 8, 8, 8, 8, 8, 8, 8, 8, 8, 8, 8, 8, 8, 8, 8, 8, 8, 8, 8, 8, 8, 8, 8, 8, 8, 8, 8, 8, 8, 8, 8, 8, 8, 8, 8, 8, 8, 8, 8, 8, 8, 8, 8, 8, 8, 8, 8, 8, 8, 8, 8, 8, 8, 8, 8, 8, 8, 8, 8, 8, 8, 8, 8, 8, 8, 8, 8, 8, 8, 8, 8, 8, 8, 8, 8, 8, 8, 8, 8, 8, 8, 8, 8, 8, 8, 8, 8]))))]
   (.bind (.add (.lit 8) (.at (.lit [0, 1, 2, 2, 3, 3, 3, 3, 4, 4, 4, 4, 4, 4, 4, 4, 5, 5, 5, 5, 5, 5, 5, 5, 5, 5, 5, 5, 5, 5, 5, 5, 6, 6, 6, 6, 6, 6, 6, 6, 6, 6, 6, 6, 6, 6, 6, 6, 6, 6, 6, 6, 6, 6, 6, 6, 6, 6, 6, 6, 6, 6, 6, 6, 7, 7, 7, 7, 7, 7, 7, 7, 7, 7, 7, 7, 7, 7, 7, 7, 7, 7, 7, 7, 7, 7, 7, 7, 7, 7, 7, 7, 7, 7, 7, 7, 7, 7, 7, 7, 7, 7, 7, 7, 7, 7, 7, 7, 7, 7, 7, 7, 7, 7, 7, 7, 7, 7, 7, 7, 7, 7, 7, 7, 7, 7, 7, 7, 8, 8, 8, 8, 8, 8, 8, 8, 8, 8, 8, 8, 8, 8, 8, 8, 8, 8, 8, 8, 8, 8, 8, 8, 8, 8, 8, 8, 8, 8, 8, 8, 8, 8, 8, 8, 8, 8, 8, 8, 8, 8, 8, 8, 8, 8, 8, 8, 8, 8, 8, 8, 8, 8, 8, 8, 8, 8, 8, 8, 8, 8, 8, 8, 8, 8, 8, 8, 8, 8, 8, 8, 8, 8, 8, 8, 8, 8, 8, 8, 8, 8, 8, 8, 8, 8, 8, 8, 8, 8, 8, 8, 8, 8, 8, 8, 8, 8, 8, 8, 8, 8, 8, 8, 8, 8, 8, 8, 8, 8, 8, 8, 8, 8, 8, 8, 8, 8, 8, 8, 8, 8, 8, 8, 8, 8, 8, 8]) (.var 1)))
   (.fin (.e (.var 2) .nil)))))
   (.need [(.b (.lt (.var 0) (.len (.lit [0, 1, 2, 2, 3, 3, 3, 3, 4, 4, 4, 4, 4, 4, 4, 4, 5, 5, 5, 5, 5, 5, 5, 5, 5, 5, 5, 5, 5, 5, 5, 5, 6, 6, 6, 6, 6, 6, 6, 6, 6, 6, 6, 6, 6, 6, 6, 6, 6, 6, 6, 6, 6, 6, 6, 6, 6, 6, 6, 6, 6, 6, 6, 6, 7, 7, 7, 7, 7, 7, 7, 7, 7, 7, 7, 7, 7, 7, 7, 7, 7, 7, 7, 7, 7, 7, 7, 7, 7, 7, 7, 7, 7, 7, 7, 7, 7, 7, 7, 7, 7, 7, 7, 7, 7, 7, 7, 7, 7, 7, 7, 7, 7, 7, 7, 7, 7, 7, 7, 7, 7, 7, 7, 7, 7, 7, 7, 7, 8, 8, 8, 8, 8, 8, 8, 8, 8, 8, 8, 8, 8, 8, 8, 8, 8, 8, 8, 8, 8, 8, 8, 8, 8, 8, 8, 8, 8, 8, 8, 8, 8, 8, 8, 8, 8, 8, 8, 8, 8, 8, 8, 8, 8, 8, 8, 8, 8, 8, 8, 8, 8, 8, 8, 8, 8, 8, 8, 8, 8, 8, 8, 8, 8, 8, 8, 8, 8, 8, 8, 8, 8, 8, 8, 8, 8, 8, 8, 8, 8, 8, 8, 8, 8, 8, 8, 8, 8, 8, 8, 8, 8, 8, 8, 8, 8, 8, 8, 8, 8, 8, 8, 8, 8, 8, 8, 8, 8, 8, 8, 8, 8, 8, 8, 8, 8, 8, 8, 8, 8, 8, 8, 8, 8, 8, 8, 8]))))]
   (.bind (.add (.lit 0) (.at (.lit [0, 1, 2, 2, 3, 3, 3, 3, 4, 4, 4, 4, 4, 4, 4, 4, 5, 5, 5, 5, 5, 5, 5, 5, 5, 5, 5, 5, 5, 5, 5, 5, 6, 6, 6, 6, 6, 6, 6, 6, 6, 6, 6, 6, 6, 6, 6, 6, 6, 6, 6, 6, 6, 6, 6, 6, 6, 6, 6, 6, 6, 6, 6, 6, 7, 7, 7, 7, 7, 7, 7, 7, 7, 7, 7, 7, 7, 7, 7, 7, 7, 7, 7, 7, 7, 7, 7, 7, 7, 7, 7, 7, 7, 7, 7, 7, 7, 7, 7, 7, 7, 7, 7, 7, 7, 7, 7, 7, 7, 7, 7, 7, 7, 7, 7, 7, 7, 7, 7, 7, 7, 7, 7, 7, 7, 7, 7, 7, 8, 8, 8, 8, 8, 8, 8, 8, 8, 8, 8, 8, 8, 8, 8, 8, 8, 8, 8, 8, 8, 8, 8, 8, 8, 8, 8, 8, 8, 8, 8, 8, 8, 8, 8, 8, 8, 8, 8, 8, 8, 8, 8, 8, 8, 8, 8, 8, 8, 8, 8, 8, 8, 8, 8, 8, 8, 8, 8, 8, 8, 8, 8, 8, 8, 8, 8, 8, 8, 8, 8, 8, 8, 8, 8, 8, 8, 8, 8, 8, 8, 8, 8, 8, 8, 8, 8, 8, 8, 8, 8, 8, 8, 8, 8, 8, 8, 8, 8, 8, 8, 8, 8, 8, 8, 8, 8, 8, 8, 8, 8, 8, 8, 8, 8, 8, 8, 8, 8, 8, 8, 8, 8, 8, 8, 8, 8, 8]) (.var 0)))
   (.fin (.e (.var 1) .nil))))))
theorem vc90 : vcOfI ⟨c90, []⟩ iv90 (parLvs s90.params) 250 Try.f90 s90 = t90 := by kernel_rfl
set_option linter.unusedVariables false in
def p90 (T : Tab) (I : Nat → Env → Env → Prop) (M : Nat → Env → Env → Nat) (pre : Nat → List Int → List (List Int) → Prop) (post : List Int → List (List Int) → Prop) (v0 : Int) : Prop :=
 ((decide ((65536 : Int) ≤ v0) = true →
  ∀ v1 : Int, v1 = (v0 / 65536) →
  ((decide ((v1 : Int) < (List.length ([0, 1, 2, 2, 3, 3, 3, 3, 4, 4, 4, 4, 4, 4, 4, 4, 5, 5, 5, 5, 5, 5, 5, 5, 5, 5, 5, 5, 5, 5, 5, 5, 6, 6, 6, 6, 6, 6, 6, 6, 6, 6, 6, 6, 6, 6, 6, 6, 6, 6, 6, 6, 6, 6, 6, 6, 6, 6, 6, 6, 6, 6, 6, 6, 7, 7, 7, 7, 7, 7, 7, 7, 7, 7, 7, 7, 7, 7, 7, 7, 7, 7, 7, 7, 7, 7, 7, 7, 7, 7, 7, 7, 7, 7, 7, 7, 7, 7, 7, 7, 7, 7, 7, 7, 7, 7, 7, 7, 7, 7, 7, 7, 7, 7, 7, 7, 7, 7, 7, 7, 7, 7, 7, 7, 7, 7, 7, 7, 8, 8, 8, 8, 8, 8, 8, 8, 8, 8, 8, 8, 8, 8, 8, 8, 8, 8, 8, 8, 8, 8, 8, 8, 8, 8, 8, 8, 8, 8, 8, 8, 8, 8, 8, 8, 8, 8, 8, 8, 8, 8, 8, 8, 8, 8, 8, 8, 8, 8, 8, 8, 8, 8, 8, 8, 8, 8, 8, 8, 8, 8, 8, 8, 8, 8, 8, 8, 8, 8, 8, 8, 8, 8, 8, 8, 8, 8, 8, 8, 8, 8, 8, 8, 8, 8, 8, 8, 8, 8, 8, 8, 8, 8, 8, 8, 8, 8, 8, 8, 8, 8, 8, 8, 8, 8, 8, 8, 8, 8, 8, 8, 8, 8, 8, 8, 8, 8, 8, 8, 8, 8, 8, 8, 8, 8, 8, 8] : List Int) : Int)) = true) ∧ ((decide ((v1 : Int) < (List.length ([0, 1, 2, 2, 3, 3, 3, 3, 4, 4, 4, 4, 4, 4, 4, 4, 5, 5, 5, 5, 5, 5, 5, 5, 5, 5, 5, 5, 5, 5, 5, 5, 6, 6, 6, 6, 6, 6, 6, 6, 6, 6, 6, 6, 6, 6, 6, 6, 6, 6, 6, 6, 6, 6, 6, 6, 6, 6, 6, 6, 6, 6, 6, 6, 7, 7, 7, 7, 7, 7, 7, 7, 7, 7, 7, 7, 7, 7, 7, 7, 7, 7, 7, 7, 7, 7, 7, 7, 7, 7, 7, 7, 7, 7, 7, 7, 7, 7, 7, 7, 7, 7, 7, 7, 7, 7, 7, 7, 7, 7, 7, 7, 7, 7, 7, 7, 7, 7, 7, 7, 7, 7, 7, 7, 7, 7, 7, 7, 8, 8, 8, 8, 8, 8, 8, 8, 8, 8, 8, 8, 8, 8, 8, 8, 8, 8, 8, 8, 8, 8, 8, 8, 8, 8, 8, 8, 8, 8, 8, 8, 8, 8, 8, 8, 8, 8, 8, 8, 8, 8, 8, 8, 8, 8, 8, 8, 8, 8, 8, 8, 8, 8, 8, 8, 8, 8, 8, 8, 8, 8, 8, 8, 8, 8, 8, 8, 8, 8, 8, 8, 8, 8, 8, 8, 8, 8, 8, 8, 8, 8, 8, 8, 8, 8, 8, 8, 8, 8, 8, 8, 8, 8, 8, 8, 8, 8, 8, 8, 8, 8, 8, 8, 8, 8, 8, 8, 8, 8, 8, 8, 8, 8, 8, 8, 8, 8, 8, 8, 8, 8, 8, 8, 8, 8, 8, 8] : List Int) : Int)) = true) →
  ∀ v2 : Int, v2 = (16 + (List.getD ([0, 1, 2, 2, 3, 3, 3, 3, 4, 4, 4, 4, 4, 4, 4, 4, 5, 5, 5, 5, 5, 5, 5, 5, 5, 5, 5, 5, 5, 5, 5, 5, 6, 6, 6, 6, 6, 6, 6, 6, 6, 6, 6, 6, 6, 6, 6, 6, 6, 6, 6, 6, 6, 6, 6, 6, 6, 6, 6, 6, 6, 6, 6, 6, 7, 7, 7, 7, 7, 7, 7, 7, 7, 7, 7, 7, 7, 7, 7, 7, 7, 7, 7, 7, 7, 7, 7, 7, 7, 7, 7, 7, 7, 7, 7, 7, 7, 7, 7, 7, 7, 7, 7, 7, 7, 7, 7, 7, 7, 7, 7, 7, 7, 7, 7, 7, 7, 7, 7, 7, 7, 7, 7, 7, 7, 7, 7, 7, 8, 8, 8, 8, 8, 8, 8, 8, 8, 8, 8, 8, 8, 8, 8, 8, 8, 8, 8, 8, 8, 8, 8, 8, 8, 8, 8, 8, 8, 8, 8, 8, 8, 8, 8, 8, 8, 8, 8, 8, 8, 8, 8, 8, 8, 8, 8, 8, 8, 8, 8, 8, 8, 8, 8, 8, 8, 8, 8, 8, 8, 8, 8, 8, 8, 8, 8, 8, 8, 8, 8, 8, 8, 8, 8, 8, 8, 8, 8, 8, 8, 8, 8, 8, 8, 8, 8, 8, 8, 8, 8, 8, 8, 8, 8, 8, 8, 8, 8, 8, 8, 8, 8, 8, 8, 8, 8, 8, 8, 8, 8, 8, 8, 8, 8, 8, 8, 8, 8, 8, 8, 8, 8, 8, 8, 8, 8, 8] : List Int) (Int.toNat v1) 0)) →
  post [v2] []))) ∧ (decide ((65536 : Int) ≤ v0) = false →
  ((decide ((256 : Int) ≤ v0) = true →
   ∀ v1 : Int, v1 = (v0 / 256) →
   ((decide ((v1 : Int) < (List.length ([0, 1, 2, 2, 3, 3, 3, 3, 4, 4, 4, 4, 4, 4, 4, 4, 5, 5, 5, 5, 5, 5, 5, 5, 5, 5, 5, 5, 5, 5, 5, 5, 6, 6, 6, 6, 6, 6, 6, 6, 6, 6, 6, 6, 6, 6, 6, 6, 6, 6, 6, 6, 6, 6, 6, 6, 6, 6, 6, 6, 6, 6, 6, 6, 7, 7, 7, 7, 7, 7, 7, 7, 7, 7, 7, 7, 7, 7, 7, 7, 7, 7, 7, 7, 7, 7, 7, 7, 7, 7, 7, 7, 7, 7, 7, 7, 7, 7, 7, 7, 7, 7, 7, 7, 7, 7, 7, 7, 7, 7, 7, 7, 7, 7, 7, 7, 7, 7, 7, 7, 7, 7, 7, 7, 7, 7, 7, 7, 8, 8, 8, 8, 8, 8, 8, 8, 8, 8, 8, 8, 8, 8, 8, 8, 8, 8, 8, 8, 8, 8, 8, 8, 8, 8, 8, 8, 8, 8, 8, 8, 8, 8, 8, 8, 8, 8, 8, 8, 8, 8, 8, 8, 8, 8, 8, 8, 8, 8, 8, 8, 8, 8, 8, 8, 8, 8, 8, 8, 8, 8, 8, 8, 8, 8, 8, 8, 8, 8, 8, 8, 8, 8, 8, 8, 8, 8, 8, 8, 8, 8, 8, 8, 8, 8, 8, 8, 8, 8, 8, 8, 8, 8, 8, 8, 8, 8, 8, 8, 8, 8, 8, 8, 8, 8, 8, 8, 8, 8, 8, 8, 8, 8, 8, 8, 8, 8, 8, 8, 8, 8, 8, 8, 8, 8, 8, 8] : List Int) : Int)) = true) ∧ ((decide ((v1 : Int) < (List.length ([0, 1, 2, 2, 3, 3, 3, 3, 4, 4, 4, 4, 4, 4, 4, 4, 5, 5, 5, 5, 5, 5, 5, 5, 5, 5, 5, 5, 5, 5, 5, 5, 6, 6, 6, 6, 6, 6, 6, 6, 6, 6, 6, 6, 6, 6, 6, 6, 6, 6, 6, 6, 6, 6, 6, 6, 6, 6, 6, 6, 6, 6, 6, 6, 7, 7, 7, 7, 7, 7, 7, 7, 7, 7, 7, 7, 7, 7, 7, 7, 7, 7, 7, 7, 7, 7, 7, 7, 7, 7, 7, 7, 7, 7, 7, 7, 7, 7, 7, 7, 7, 7, 7, 7, 7, 7, 7, 7, 7, 7, 7, 7, 7, 7, 7, 7, 7, 7, 7, 7, 7, 7, 7, 7, 7, 7, 7, 7, 8, 8, 8, 8, 8, 8, 8, 8, 8, 8, 8, 8, 8, 8, 8, 8, 8, 8, 8, 8, 8, 8, 8, 8, 8, 8, 8, 8, 8, 8, 8, 8, 8, 8, 8, 8, 8, 8, 8, 8, 8, 8, 8, 8, 8, 8, 8, 8, 8, 8, 8, 8, 8, 8, 8, 8, 8, 8, 8, 8, 8, 8, 8, 8, 8, 8, 8, 8, 8, 8, 8, 8, 8, 8, 8, 8, 8, 8, 8, 8, 8, 8, 8, 8, 8, 8, 8, 8, 8, 8, 8, 8, 8, 8, 8, 8, 8, 8, 8, 8, 8, 8, 8, 8, 8, 8, 8, 8, 8, 8, 8, 8, 8, 8, 8, 8, 8, 8, 8, 8, 8, 8, 8, 8, 8, 8, 8, 8] : List Int) : Int)) = true) →
   ∀ v2 : Int, v2 = (8 + (List.getD ([0, 1, 2, 2, 3, 3, 3, 3, 4, 4, 4, 4, 4, 4, 4, 4, 5, 5, 5, 5, 5, 5, 5, 5, 5, 5, 5, 5, 5, 5, 5, 5, 6, 6, 6, 6, 6, 6, 6, 6, 6, 6, 6, 6, 6, 6, 6, 6, 6, 6, 6, 6, 6, 6, 6, 6, 6, 6, 6, 6, 6, 6, 6, 6, 7, 7, 7, 7, 7, 7, 7, 7, 7, 7, 7, 7, 7, 7, 7, 7, 7, 7, 7, 7, 7, 7, 7, 7, 7, 7, 7, 7, 7, 7, 7, 7, 7, 7, 7, 7, 7, 7, 7, 7, 7, 7, 7, 7, 7, 7, 7, 7, 7, 7, 7, 7, 7, 7, 7, 7, 7, 7, 7, 7, 7, 7, 7, 7, 8, 8, 8, 8, 8, 8, 8, 8, 8, 8, 8, 8, 8, 8, 8, 8, 8, 8, 8, 8, 8, 8, 8, 8, 8, 8, 8, 8, 8, 8, 8, 8, 8, 8, 8, 8, 8, 8, 8, 8, 8, 8, 8, 8, 8, 8, 8, 8, 8, 8, 8, 8, 8, 8, 8, 8, 8, 8, 8, 8, 8, 8, 8, 8, 8, 8, 8, 8, 8, 8, 8, 8, 8, 8, 8, 8, 8, 8, 8, 8, 8, 8, 8, 8, 8, 8, 8, 8, 8, 8, 8, 8, 8, 8, 8, 8, 8, 8, 8, 8, 8, 8, 8, 8, 8, 8, 8, 8, 8, 8, 8, 8, 8, 8, 8, 8, 8, 8, 8, 8, 8, 8, 8, 8, 8, 8, 8, 8] : List Int) (Int.toNat v1) 0)) →
   post [v2] []))) ∧ (decide ((256 : Int) ≤ v0) = false →
   ((decide ((v0 : Int) < (List.length ([0, 1, 2, 2, 3, 3, 3, 3, 4, 4, 4, 4, 4, 4, 4, 4, 5, 5, 5, 5, 5, 5, 5, 5, 5, 5, 5, 5, 5, 5, 5, 5, 6, 6, 6, 6, 6, 6, 6, 6, 6, 6, 6, 6, 6, 6, 6, 6, 6, 6, 6, 6, 6, 6, 6, 6, 6, 6, 6, 6, 6, 6, 6, 6, 7, 7, 7, 7, 7, 7, 7, 7, 7, 7, 7, 7, 7, 7, 7, 7, 7, 7, 7, 7, 7, 7, 7, 7, 7, 7, 7, 7, 7, 7, 7, 7, 7, 7, 7, 7, 7, 7, 7, 7, 7, 7, 7, 7, 7, 7, 7, 7, 7, 7, 7, 7, 7, 7, 7, 7, 7, 7, 7, 7, 7, 7, 7, 7, 8, 8, 8, 8, 8, 8, 8, 8, 8, 8, 8, 8, 8, 8, 8, 8, 8, 8, 8, 8, 8, 8, 8, 8, 8, 8, 8, 8, 8, 8, 8, 8, 8, 8, 8, 8, 8, 8, 8, 8, 8, 8, 8, 8, 8, 8, 8, 8, 8, 8, 8, 8, 8, 8, 8, 8, 8, 8, 8, 8, 8, 8, 8, 8, 8, 8, 8, 8, 8, 8, 8, 8, 8, 8, 8, 8, 8, 8, 8, 8, 8, 8, 8, 8, 8, 8, 8, 8, 8, 8, 8, 8, 8, 8, 8, 8, 8, 8, 8, 8, 8, 8, 8, 8, 8, 8, 8, 8, 8, 8, 8, 8, 8, 8, 8, 8, 8, 8, 8, 8, 8, 8, 8, 8, 8, 8, 8, 8] : List Int) : Int)) = true) ∧ ((decide ((v0 : Int) < (List.length ([0, 1, 2, 2, 3, 3, 3, 3, 4, 4, 4, 4, 4, 4, 4, 4, 5, 5, 5, 5, 5, 5, 5, 5, 5, 5, 5, 5, 5, 5, 5, 5, 6, 6, 6, 6, 6, 6, 6, 6, 6, 6, 6, 6, 6, 6, 6, 6, 6, 6, 6, 6, 6, 6, 6, 6, 6, 6, 6, 6, 6, 6, 6, 6, 7, 7, 7, 7, 7, 7, 7, 7, 7, 7, 7, 7, 7, 7, 7, 7, 7, 7, 7, 7, 7, 7, 7, 7, 7, 7, 7, 7, 7, 7, 7, 7, 7, 7, 7, 7, 7, 7, 7, 7, 7, 7, 7, 7, 7, 7, 7, 7, 7, 7, 7, 7, 7, 7, 7, 7, 7, 7, 7, 7, 7, 7, 7, 7, 8, 8, 8, 8, 8, 8, 8, 8, 8, 8, 8, 8, 8, 8, 8, 8, 8, 8, 8, 8, 8, 8, 8, 8, 8, 8, 8, 8, 8, 8, 8, 8, 8, 8, 8, 8, 8, 8, 8, 8, 8, 8, 8, 8, 8, 8, 8, 8, 8, 8, 8, 8, 8, 8, 8, 8, 8, 8, 8, 8, 8, 8, 8, 8, 8, 8, 8, 8, 8, 8, 8, 8, 8, 8, 8, 8, 8, 8, 8, 8, 8, 8, 8, 8, 8, 8, 8, 8, 8, 8, 8, 8, 8, 8, 8, 8, 8, 8, 8, 8, 8, 8, 8, 8, 8, 8, 8, 8, 8, 8, 8, 8, 8, 8, 8, 8, 8, 8, 8, 8, 8, 8, 8, 8, 8, 8, 8, 8] : List Int) : Int)) = true) →
   ∀ v1 : Int, v1 = (0 + (List.getD ([0, 1, 2, 2, 3, 3, 3, 3, 4, 4, 4, 4, 4, 4, 4, 4, 5, 5, 5, 5, 5, 5, 5, 5, 5, 5, 5, 5, 5, 5, 5, 5, 6, 6, 6, 6, 6, 6, 6, 6, 6, 6, 6, 6, 6, 6, 6, 6, 6, 6, 6, 6, 6, 6, 6, 6, 6, 6, 6, 6, 6, 6, 6, 6, 7, 7, 7, 7, 7, 7, 7, 7, 7, 7, 7, 7, 7, 7, 7, 7, 7, 7, 7, 7, 7, 7, 7, 7, 7, 7, 7, 7, 7, 7, 7, 7, 7, 7, 7, 7, 7, 7, 7, 7, 7, 7, 7, 7, 7, 7, 7, 7, 7, 7, 7, 7, 7, 7, 7, 7, 7, 7, 7, 7, 7, 7, 7, 7, 8, 8, 8, 8, 8, 8, 8, 8, 8, 8, 8, 8, 8, 8, 8, 8, 8, 8, 8, 8, 8, 8, 8, 8, 8, 8, 8, 8, 8, 8, 8, 8, 8, 8, 8, 8, 8, 8, 8, 8, 8, 8, 8, 8, 8, 8, 8, 8, 8, 8, 8, 8, 8, 8, 8, 8, 8, 8, 8, 8, 8, 8, 8, 8, 8, 8, 8, 8, 8, 8, 8, 8, 8, 8, 8, 8, 8, 8, 8, 8, 8, 8, 8, 8, 8, 8, 8, 8, 8, 8, 8, 8, 8, 8, 8, 8, 8, 8, 8, 8, 8, 8, 8, 8, 8, 8, 8, 8, 8, 8, 8, 8, 8, 8, 8, 8, 8, 8, 8, 8, 8, 8, 8, 8, 8, 8, 8, 8] : List Int) (Int.toNat v0) 0)) →
   post [v1] []))))))
theorem q90 (T : Tab) (I : Nat → Env → Env → Prop) (M : Nat → Env → Env → Nat) (pre : Nat → List Int → List (List Int) → Prop) (post : List Int → List (List Int) → Prop) (v0 : Int) : t90.plain T (presG pre I M) post ⟨[v0], []⟩ = p90 T I M pre post v0 := by kernel_rfl
theorem k90 (T : Tab) (I : Nat → Env → Env → Prop) (M : Nat → Env → Env → Nat) (pre : Nat → List Int → List (List Int) → Prop) (hs : SubSig T c90.sigs) (ht : TotG pre c90.sigs) (hg : T.sig 90 = some s90) (hC : CtAll Try.prog T.fns (presQ pre) c90.sigs) (hk : CpAll Try.prog c90.cps) (hi : ∀ xs ls, allHas (parIvs s90.params) xs → pre 90 xs ls → allHas iv90 xs)
    (h : ∀ (v0 : Int), allHas iv90 [v0] → allL (parLvs s90.params) [] → pre 90 [v0] [] → p90 T I M pre (fun ys _ => ys = T.app 90 [v0] []) v0) : CT Try.prog T.fns (presQ pre) 90 s90 :=
  T.ctg (F := ⟨c90, []⟩) (fuel := 250) vc90 Try.checked.mixed hs ht hg hC hk Try.func90 I M (fun xs ls h1 h2 h3 => ⟨hi xs ls h1 h3, h2⟩) fun xs ls hx hl hp => by
    match xs, ls, hx, hl, hp with
    | [v0], [], hx, hl, hp => rw [q90]; exact h v0 hx hl hp
/-- (loop.example/g01242/impl.limbs).bitCount -/
def s85 : Sig := ⟨[.val true [.i .u32, .i .u32, .i .u32, .i .u32, .i .u32, .i .u32]], [(false, [.n .i64 0 24])], false⟩
noncomputable def c85 : Cfg := ⟨Try.prog, [(89, s89), (90, s90)], [], [], [], []⟩
def iv85 : List Iv := [⟨0, 1000000⟩, ⟨0, 0⟩, ⟨0, 0⟩, ⟨0, 0⟩, ⟨0, 0⟩, ⟨0, 0⟩]
def t85 : VC :=
 (.need [(.pre 89 (.e (.var 0) (.e (.var 1) (.e (.var 2) (.e (.var 3) (.e (.var 4) (.e (.var 5) .nil)))))))]
 (.call 89 (.e (.var 0) (.e (.var 1) (.e (.var 2) (.e (.var 3) (.e (.var 4) (.e (.var 5) .nil)))))) 1
 (.ite (.eq (.var 6) (.lit 0))
  (.fin (.e (.lit 0) .nil))
  (.need [(.pre 90 (.e (.var 0) .nil))]
  (.call 90 (.e (.var 0) .nil) 1
  (.bind (.add (.lit 0) (.var 7))
  (.fin (.e (.var 8) .nil))))))))
theorem vc85 : vcOfI ⟨c85, []⟩ iv85 (parLvs s85.params) 250 Try.f85 s85 = t85 := by kernel_rfl
set_option linter.unusedVariables false in
def p85 (T : Tab) (I : Nat → Env → Env → Prop) (M : Nat → Env → Env → Nat) (pre : Nat → List Int → List (List Int) → Prop) (post : List Int → List (List Int) → Prop) (v0 v1 v2 v3 v4 v5 : Int) : Prop :=
 ((pre 89 [v0, v1, v2, v3, v4, v5] []) ∧ ((pre 89 [v0, v1, v2, v3, v4, v5] []) →
 ∀ v6 : Int, [v6] = T.out 89 1 [v0, v1, v2, v3, v4, v5] →
 ((decide ((v6 : Int) = 0) = true →
  post [0] []) ∧ (decide ((v6 : Int) = 0) = false →
  ((pre 90 [v0] []) ∧ ((pre 90 [v0] []) →
  ∀ v7 : Int, [v7] = T.out 90 1 [v0] →
  ∀ v8 : Int, v8 = (0 + v7) →
  post [v8] []))))))
theorem q85 (T : Tab) (I : Nat → Env → Env → Prop) (M : Nat → Env → Env → Nat) (pre : Nat → List Int → List (List Int) → Prop) (post : List Int → List (List Int) → Prop) (v0 v1 v2 v3 v4 v5 : Int) : t85.plain T (presG pre I M) post ⟨[v0, v1, v2, v3, v4, v5], []⟩ = p85 T I M pre post v0 v1 v2 v3 v4 v5 := by kernel_rfl
theorem k85 (T : Tab) (I : Nat → Env → Env → Prop) (M : Nat → Env → Env → Nat) (pre : Nat → List Int → List (List Int) → Prop) (hs : SubSig T c85.sigs) (ht : TotG pre c85.sigs) (hg : T.sig 85 = some s85) (hC : CtAll Try.prog T.fns (presQ pre) c85.sigs) (hk : CpAll Try.prog c85.cps) (hi : ∀ xs ls, allHas (parIvs s85.params) xs → pre 85 xs ls → allHas iv85 xs)
    (h : ∀ (v0 v1 v2 v3 v4 v5 : Int), allHas iv85 [v0, v1, v2, v3, v4, v5] → allL (parLvs s85.params) [] → pre 85 [v0, v1, v2, v3, v4, v5] [] → p85 T I M pre (fun ys _ => ys = T.app 85 [v0, v1, v2, v3, v4, v5] []) v0 v1 v2 v3 v4 v5) : CT Try.prog T.fns (presQ pre) 85 s85 :=
  T.ctg (F := ⟨c85, []⟩) (fuel := 250) vc85 Try.checked.mixed hs ht hg hC hk Try.func85 I M (fun xs ls h1 h2 h3 => ⟨hi xs ls h1 h3, h2⟩) fun xs ls hx hl hp => by
    match xs, ls, hx, hl, hp with
    | [v0, v1, v2, v3, v4, v5], [], hx, hl, hp => rw [q85]; exact h v0 v1 v2 v3 v4 v5 hx hl hp
/-- (loop.example/g01242/impl.limbs).divideShort -/
def s92 : Sig := ⟨[.val true [.i .u32, .i .u32, .i .u32, .i .u32, .i .u32, .i .u32], .val false [.i .u32]], [(true, [.i .u32, .i .u32, .i .u32, .i .u32, .i .u32, .i .u32]), (false, [.i .u32])], false⟩
noncomputable def c92 : Cfg := ⟨Try.prog, [], [], [], [], []⟩
def iv92 : List Iv := [⟨0, 2000000⟩, ⟨0, 0⟩, ⟨0, 0⟩, ⟨0, 0⟩, ⟨0, 0⟩, ⟨0, 0⟩, ⟨0, 2000000⟩]
def t92 : VC :=
 (.bind (.bits .or .u64 (.lit 0) (.lit 0))
 (.need [(.b (.not (.eq (.var 6) (.lit 0))))]
 (.bind (.wrap .u32 (.div (.var 7) (.var 6)))
 (.need [(.b (.not (.eq (.var 6) (.lit 0))))]
 (.bind (.tmod (.var 7) (.var 6))
 (.bind (.bits .or .u64 (.wrap .u64 (.mul (.var 9) (.lit 4294967296))) (.lit 0))
 (.need [(.b (.not (.eq (.var 6) (.lit 0))))]
 (.bind (.wrap .u32 (.div (.var 10) (.var 6)))
 (.need [(.b (.not (.eq (.var 6) (.lit 0))))]
 (.bind (.tmod (.var 10) (.var 6))
 (.bind (.bits .or .u64 (.wrap .u64 (.mul (.var 12) (.lit 4294967296))) (.lit 0))
 (.need [(.b (.not (.eq (.var 6) (.lit 0))))]
 (.bind (.wrap .u32 (.div (.var 13) (.var 6)))
 (.need [(.b (.not (.eq (.var 6) (.lit 0))))]
 (.bind (.tmod (.var 13) (.var 6))
 (.bind (.bits .or .u64 (.wrap .u64 (.mul (.var 15) (.lit 4294967296))) (.lit 0))
 (.need [(.b (.not (.eq (.var 6) (.lit 0))))]
 (.bind (.wrap .u32 (.div (.var 16) (.var 6)))
 (.need [(.b (.not (.eq (.var 6) (.lit 0))))]
 (.bind (.tmod (.var 16) (.var 6))
 (.bind (.bits .or .u64 (.wrap .u64 (.mul (.var 18) (.lit 4294967296))) (.lit 0))
 (.need [(.b (.not (.eq (.var 6) (.lit 0))))]
 (.bind (.wrap .u32 (.div (.var 19) (.var 6)))
 (.need [(.b (.not (.eq (.var 6) (.lit 0))))]
 (.bind (.tmod (.var 19) (.var 6))
 (.bind (.bits .or .u64 (.wrap .u64 (.mul (.var 21) (.lit 4294967296))) (.var 0))
 (.need [(.b (.not (.eq (.var 6) (.lit 0))))]
 (.bind (.wrap .u32 (.div (.var 22) (.var 6)))
 (.need [(.b (.not (.eq (.var 6) (.lit 0))))]
 (.bind (.tmod (.var 22) (.var 6))
 (.bind (.wrap .u32 (.var 24))
 (.fin (.e (.var 23) (.e (.var 20) (.e (.var 17) (.e (.var 14) (.e (.var 11) (.e (.var 8) (.e (.var 25) .nil)))))))))))))))))))))))))))))))))))))))
theorem vc92 : vcOfI ⟨c92, []⟩ iv92 (parLvs s92.params) 250 Try.f92 s92 = t92 := by kernel_rfl
set_option linter.unusedVariables false in
def p92 (T : Tab) (I : Nat → Env → Env → Prop) (M : Nat → Env → Env → Nat) (pre : Nat → List Int → List (List Int) → Prop) (post : List Int → List (List Int) → Prop) (v0 v1 v2 v3 v4 v5 v6 : Int) : Prop :=
 ∀ v7 : Int, v7 = (bitsInt .or .u64 0 0) →
 (((!decide ((v6 : Int) = 0)) = true) ∧ (((!decide ((v6 : Int) = 0)) = true) →
 ∀ v8 : Int, v8 = (IntKind.wrap .u32 (v7 / v6)) →
 (((!decide ((v6 : Int) = 0)) = true) ∧ (((!decide ((v6 : Int) = 0)) = true) →
 ∀ v9 : Int, v9 = (Int.tmod v7 v6) →
 ∀ v10 : Int, v10 = (bitsInt .or .u64 (IntKind.wrap .u64 (v9 * 4294967296)) 0) →
 (((!decide ((v6 : Int) = 0)) = true) ∧ (((!decide ((v6 : Int) = 0)) = true) →
 ∀ v11 : Int, v11 = (IntKind.wrap .u32 (v10 / v6)) →
 (((!decide ((v6 : Int) = 0)) = true) ∧ (((!decide ((v6 : Int) = 0)) = true) →
 ∀ v12 : Int, v12 = (Int.tmod v10 v6) →
 ∀ v13 : Int, v13 = (bitsInt .or .u64 (IntKind.wrap .u64 (v12 * 4294967296)) 0) →
 (((!decide ((v6 : Int) = 0)) = true) ∧ (((!decide ((v6 : Int) = 0)) = true) →
 ∀ v14 : Int, v14 = (IntKind.wrap .u32 (v13 / v6)) →
 (((!decide ((v6 : Int) = 0)) = true) ∧ (((!decide ((v6 : Int) = 0)) = true) →
 ∀ v15 : Int, v15 = (Int.tmod v13 v6) →
 ∀ v16 : Int, v16 = (bitsInt .or .u64 (IntKind.wrap .u64 (v15 * 4294967296)) 0) →
 (((!decide ((v6 : Int) = 0)) = true) ∧ (((!decide ((v6 : Int) = 0)) = true) →
 ∀ v17 : Int, v17 = (IntKind.wrap .u32 (v16 / v6)) →
 (((!decide ((v6 : Int) = 0)) = true) ∧ (((!decide ((v6 : Int) = 0)) = true) →
 ∀ v18 : Int, v18 = (Int.tmod v16 v6) →
 ∀ v19 : Int, v19 = (bitsInt .or .u64 (IntKind.wrap .u64 (v18 * 4294967296)) 0) →
 (((!decide ((v6 : Int) = 0)) = true) ∧ (((!decide ((v6 : Int) = 0)) = true) →
 ∀ v20 : Int, v20 = (IntKind.wrap .u32 (v19 / v6)) →
 (((!decide ((v6 : Int) = 0)) = true) ∧ (((!decide ((v6 : Int) = 0)) = true) →
 ∀ v21 : Int, v21 = (Int.tmod v19 v6) →
 ∀ v22 : Int, v22 = (bitsInt .or .u64 (IntKind.wrap .u64 (v21 * 4294967296)) v0) →
 (((!decide ((v6 : Int) = 0)) = true) ∧ (((!decide ((v6 : Int) = 0)) = true) →
 ∀ v23 : Int, v23 = (IntKind.wrap .u32 (v22 / v6)) →
 (((!decide ((v6 : Int) = 0)) = true) ∧ (((!decide ((v6 : Int) = 0)) = true) →
 ∀ v24 : Int, v24 = (Int.tmod v22 v6) →
 ∀ v25 : Int, v25 = (IntKind.wrap .u32 v24) →
 post [v23, v20, v17, v14, v11, v8, v25] []))))))))))))))))))))))))
theorem q92 (T : Tab) (I : Nat → Env → Env → Prop) (M : Nat → Env → Env → Nat) (pre : Nat → List Int → List (List Int) → Prop) (post : List Int → List (List Int) → Prop) (v0 v1 v2 v3 v4 v5 v6 : Int) : t92.plain T (presG pre I M) post ⟨[v0, v1, v2, v3, v4, v5, v6], []⟩ = p92 T I M pre post v0 v1 v2 v3 v4 v5 v6 := by kernel_rfl
theorem k92 (T : Tab) (I : Nat → Env → Env → Prop) (M : Nat → Env → Env → Nat) (pre : Nat → List Int → List (List Int) → Prop) (hs : SubSig T c92.sigs) (ht : TotG pre c92.sigs) (hg : T.sig 92 = some s92) (hC : CtAll Try.prog T.fns (presQ pre) c92.sigs) (hk : CpAll Try.prog c92.cps) (hi : ∀ xs ls, allHas (parIvs s92.params) xs → pre 92 xs ls → allHas iv92 xs)
    (h : ∀ (v0 v1 v2 v3 v4 v5 v6 : Int), allHas iv92 [v0, v1, v2, v3, v4, v5, v6] → allL (parLvs s92.params) [] → pre 92 [v0, v1, v2, v3, v4, v5, v6] [] → p92 T I M pre (fun ys _ => ys = T.app 92 [v0, v1, v2, v3, v4, v5, v6] []) v0 v1 v2 v3 v4 v5 v6) : CT Try.prog T.fns (presQ pre) 92 s92 :=
  T.ctg (F := ⟨c92, []⟩) (fuel := 250) vc92 Try.checked.mixed hs ht hg hC hk Try.func92 I M (fun xs ls h1 h2 h3 => ⟨hi xs ls h1 h3, h2⟩) fun xs ls hx hl hp => by
    match xs, ls, hx, hl, hp with
    | [v0, v1, v2, v3, v4, v5, v6], [], hx, hl, hp => rw [q92]; exact h v0 v1 v2 v3 v4 v5 v6 hx hl hp
/-- (loop.example/g01242/impl.limbs).divide -/
def s86 : Sig := ⟨[.val true [.i .u32, .i .u32, .i .u32, .i .u32, .i .u32, .i .u32], .val true [.i .u32, .i .u32, .i .u32, .i .u32, .i .u32, .i .u32]], [(true, [.i .u32, .i .u32, .i .u32, .i .u32, .i .u32, .i .u32]), (true, [.i .u32, .i .u32, .i .u32, .i .u32, .i .u32, .i .u32])], false⟩
noncomputable def c86 : Cfg := ⟨Try.prog, [(78, s78), (89, s89), (92, s92)], [], [], [], []⟩
def iv86 : List Iv := [⟨0, 2000000⟩, ⟨0, 0⟩, ⟨0, 0⟩, ⟨0, 0⟩, ⟨0, 0⟩, ⟨0, 0⟩, ⟨0, 2000000⟩, ⟨0, 0⟩, ⟨0, 0⟩, ⟨0, 0⟩, ⟨0, 0⟩, ⟨0, 0⟩]
def t86 : VC :=
 (.need [(.pre 78 (.e (.var 0) (.e (.var 1) (.e (.var 2) (.e (.var 3) (.e (.var 4) (.e (.var 5) (.e (.var 6) (.e (.var 7) (.e (.var 8) (.e (.var 9) (.e (.var 10) (.e (.var 11) .nil)))))))))))))]
 (.call 78 (.e (.var 0) (.e (.var 1) (.e (.var 2) (.e (.var 3) (.e (.var 4) (.e (.var 5) (.e (.var 6) (.e (.var 7) (.e (.var 8) (.e (.var 9) (.e (.var 10) (.e (.var 11) .nil)))))))))))) 1
 (.ite (.lt (.var 12) (.lit 0))
  (.fin (.e (.lit 0) (.e (.lit 0) (.e (.lit 0) (.e (.lit 0) (.e (.lit 0) (.e (.lit 0) (.e (.var 0) (.e (.var 1) (.e (.var 2) (.e (.var 3) (.e (.var 4) (.e (.var 5) .nil)))))))))))))
  (.need [(.pre 89 (.e (.var 6) (.e (.var 7) (.e (.var 8) (.e (.var 9) (.e (.var 10) (.e (.var 11) .nil)))))))]
  (.call 89 (.e (.var 6) (.e (.var 7) (.e (.var 8) (.e (.var 9) (.e (.var 10) (.e (.var 11) .nil)))))) 1
  (.need [(.pre 92 (.e (.var 0) (.e (.var 1) (.e (.var 2) (.e (.var 3) (.e (.var 4) (.e (.var 5) (.e (.var 6) .nil))))))))]
  (.call 92 (.e (.var 0) (.e (.var 1) (.e (.var 2) (.e (.var 3) (.e (.var 4) (.e (.var 5) (.e (.var 6) .nil))))))) 7
  (.fin (.e (.var 14) (.e (.var 15) (.e (.var 16) (.e (.var 17) (.e (.var 18) (.e (.var 19) (.e (.var 20) (.e (.lit 0) (.e (.lit 0) (.e (.lit 0) (.e (.lit 0) (.e (.lit 0) .nil))))))))))))))))))))
theorem vc86 : vcOfI ⟨c86, []⟩ iv86 (parLvs s86.params) 250 Try.f86 s86 = t86 := by kernel_rfl
set_option linter.unusedVariables false in
def p86 (T : Tab) (I : Nat → Env → Env → Prop) (M : Nat → Env → Env → Nat) (pre : Nat → List Int → List (List Int) → Prop) (post : List Int → List (List Int) → Prop) (v0 v1 v2 v3 v4 v5 v6 v7 v8 v9 v10 v11 : Int) : Prop :=
 ((pre 78 [v0, v1, v2, v3, v4, v5, v6, v7, v8, v9, v10, v11] []) ∧ ((pre 78 [v0, v1, v2, v3, v4, v5, v6, v7, v8, v9, v10, v11] []) →
 ∀ v12 : Int, [v12] = T.out 78 1 [v0, v1, v2, v3, v4, v5, v6, v7, v8, v9, v10, v11] →
 ((decide ((v12 : Int) < 0) = true →
  post [0, 0, 0, 0, 0, 0, v0, v1, v2, v3, v4, v5] []) ∧ (decide ((v12 : Int) < 0) = false →
  ((pre 89 [v6, v7, v8, v9, v10, v11] []) ∧ ((pre 89 [v6, v7, v8, v9, v10, v11] []) →
  ∀ v13 : Int, [v13] = T.out 89 1 [v6, v7, v8, v9, v10, v11] →
  ((pre 92 [v0, v1, v2, v3, v4, v5, v6] []) ∧ ((pre 92 [v0, v1, v2, v3, v4, v5, v6] []) →
  ∀ v14 v15 v16 v17 v18 v19 v20 : Int, [v14, v15, v16, v17, v18, v19, v20] = T.out 92 7 [v0, v1, v2, v3, v4, v5, v6] →
  post [v14, v15, v16, v17, v18, v19, v20, 0, 0, 0, 0, 0] []))))))))
theorem q86 (T : Tab) (I : Nat → Env → Env → Prop) (M : Nat → Env → Env → Nat) (pre : Nat → List Int → List (List Int) → Prop) (post : List Int → List (List Int) → Prop) (v0 v1 v2 v3 v4 v5 v6 v7 v8 v9 v10 v11 : Int) : t86.plain T (presG pre I M) post ⟨[v0, v1, v2, v3, v4, v5, v6, v7, v8, v9, v10, v11], []⟩ = p86 T I M pre post v0 v1 v2 v3 v4 v5 v6 v7 v8 v9 v10 v11 := by kernel_rfl
theorem k86 (T : Tab) (I : Nat → Env → Env → Prop) (M : Nat → Env → Env → Nat) (pre : Nat → List Int → List (List Int) → Prop) (hs : SubSig T c86.sigs) (ht : TotG pre c86.sigs) (hg : T.sig 86 = some s86) (hC : CtAll Try.prog T.fns (presQ pre) c86.sigs) (hk : CpAll Try.prog c86.cps) (hi : ∀ xs ls, allHas (parIvs s86.params) xs → pre 86 xs ls → allHas iv86 xs)
    (h : ∀ (v0 v1 v2 v3 v4 v5 v6 v7 v8 v9 v10 v11 : Int), allHas iv86 [v0, v1, v2, v3, v4, v5, v6, v7, v8, v9, v10, v11] → allL (parLvs s86.params) [] → pre 86 [v0, v1, v2, v3, v4, v5, v6, v7, v8, v9, v10, v11] [] → p86 T I M pre (fun ys _ => ys = T.app 86 [v0, v1, v2, v3, v4, v5, v6, v7, v8, v9, v10, v11] []) v0 v1 v2 v3 v4 v5 v6 v7 v8 v9 v10 v11) : CT Try.prog T.fns (presQ pre) 86 s86 :=
  T.ctg (F := ⟨c86, []⟩) (fuel := 250) vc86 Try.checked.mixed hs ht hg hC hk Try.func86 I M (fun xs ls h1 h2 h3 => ⟨hi xs ls h1 h3, h2⟩) fun xs ls hx hl hp => by
    match xs, ls, hx, hl, hp with
    | [v0, v1, v2, v3, v4, v5, v6, v7, v8, v9, v10, v11], [], hx, hl, hp => rw [q86]; exact h v0 v1 v2 v3 v4 v5 v6 v7 v8 v9 v10 v11 hx hl hp
/-- (loop.example/g01242/impl.limbs).root -/
def s80 : Sig := ⟨[.val true [.i .u32, .i .u32, .i .u32, .i .u32, .i .u32, .i .u32]], [(true, [.i .u32, .i .u32, .i .u32, .i .u32, .i .u32, .i .u32])], false⟩
noncomputable def c80 : Cfg := ⟨Try.prog, [(83, s83), (85, s85), (84, s84), (86, s86), (87, s87), (88, s88), (78, s78)], [], [], [], []⟩
def iv80 : List Iv := [⟨0, 1000000⟩, ⟨0, 0⟩, ⟨0, 0⟩, ⟨0, 0⟩, ⟨0, 0⟩, ⟨0, 0⟩]
def t80 : VC :=
 (.need [(.pre 83 (.e (.var 0) (.e (.var 1) (.e (.var 2) (.e (.var 3) (.e (.var 4) (.e (.var 5) .nil)))))))]
 (.call 83 (.e (.var 0) (.e (.var 1) (.e (.var 2) (.e (.var 3) (.e (.var 4) (.e (.var 5) .nil)))))) 1
 (.ite (.eq (.var 6) (.lit 1))
  (.fin (.e (.var 0) (.e (.var 1) (.e (.var 2) (.e (.var 3) (.e (.var 4) (.e (.var 5) .nil)))))))
  (.need [(.pre 85 (.e (.var 0) (.e (.var 1) (.e (.var 2) (.e (.var 3) (.e (.var 4) (.e (.var 5) .nil)))))))]
  (.call 85 (.e (.var 0) (.e (.var 1) (.e (.var 2) (.e (.var 3) (.e (.var 4) (.e (.var 5) .nil)))))) 1
  (.need [(.pre 84 (.e (.lit 1) (.e (.lit 0) (.e (.lit 0) (.e (.lit 0) (.e (.lit 0) (.e (.lit 0) (.e (.div (.add (.var 7) (.lit 1)) (.lit 2)) .nil))))))))]
  (.call 84 (.e (.lit 1) (.e (.lit 0) (.e (.lit 0) (.e (.lit 0) (.e (.lit 0) (.e (.lit 0) (.e (.div (.add (.var 7) (.lit 1)) (.lit 2)) .nil))))))) 6
  (.loop 0 [(.var 8), (.var 9), (.var 10), (.var 11), (.var 12), (.var 13)] [] [⟨0, 2000000⟩, ⟨0, 0⟩, ⟨0, 0⟩, ⟨0, 0⟩, ⟨0, 0⟩, ⟨0, 0⟩] []
   (.need [(.pre 86 (.e (.var 0) (.e (.var 1) (.e (.var 2) (.e (.var 3) (.e (.var 4) (.e (.var 5) (.e (.var 14) (.e (.var 15) (.e (.var 16) (.e (.var 17) (.e (.var 18) (.e (.var 19) .nil)))))))))))))]
   (.call 86 (.e (.var 0) (.e (.var 1) (.e (.var 2) (.e (.var 3) (.e (.var 4) (.e (.var 5) (.e (.var 14) (.e (.var 15) (.e (.var 16) (.e (.var 17) (.e (.var 18) (.e (.var 19) .nil)))))))))))) 12
   (.need [(.pre 87 (.e (.var 14) (.e (.var 15) (.e (.var 16) (.e (.var 17) (.e (.var 18) (.e (.var 19) (.e (.var 20) (.e (.var 21) (.e (.var 22) (.e (.var 23) (.e (.var 24) (.e (.var 25) .nil)))))))))))))]
   (.call 87 (.e (.var 14) (.e (.var 15) (.e (.var 16) (.e (.var 17) (.e (.var 18) (.e (.var 19) (.e (.var 20) (.e (.var 21) (.e (.var 22) (.e (.var 23) (.e (.var 24) (.e (.var 25) .nil)))))))))))) 7
   (.need [(.pre 88 (.e (.var 32) (.e (.var 33) (.e (.var 34) (.e (.var 35) (.e (.var 36) (.e (.var 37) (.e (.lit 1) .nil))))))))]
   (.call 88 (.e (.var 32) (.e (.var 33) (.e (.var 34) (.e (.var 35) (.e (.var 36) (.e (.var 37) (.e (.lit 1) .nil))))))) 6
   (.need [(.pre 78 (.e (.var 39) (.e (.var 40) (.e (.var 41) (.e (.var 42) (.e (.var 43) (.e (.var 44) (.e (.var 14) (.e (.var 15) (.e (.var 16) (.e (.var 17) (.e (.var 18) (.e (.var 19) .nil)))))))))))))]
   (.call 78 (.e (.var 39) (.e (.var 40) (.e (.var 41) (.e (.var 42) (.e (.var 43) (.e (.var 44) (.e (.var 14) (.e (.var 15) (.e (.var 16) (.e (.var 17) (.e (.var 18) (.e (.var 19) .nil)))))))))))) 1
   (.ite (.le (.lit 0) (.var 45))
    (.fin (.e (.var 14) (.e (.var 15) (.e (.var 16) (.e (.var 17) (.e (.var 18) (.e (.var 19) .nil)))))))
    (.again 0 14 0 [⟨0, 2000000⟩, ⟨0, 0⟩, ⟨0, 0⟩, ⟨0, 0⟩, ⟨0, 0⟩, ⟨0, 0⟩] [(.var 39), (.var 40), (.var 41), (.var 42), (.var 43), (.var 44)] []))))))))))))))))))
theorem vc80 : vcOfI ⟨c80, [(4, ⟨0, [], [2], [19, 20, 21, 18, 22, 23, 4, 5, 25, 26, 27, 24, 28, 29, 6, 7, 30, 31, 8, 32, 33, 34, 35, 36, 37], [⟨0, 2000000⟩, ⟨0, 0⟩, ⟨0, 0⟩, ⟨0, 0⟩, ⟨0, 0⟩, ⟨0, 0⟩], [], []⟩)]⟩ iv80 (parLvs s80.params) 250 Try.f80 s80 = t80 := by kernel_rfl
set_option linter.unusedVariables false in
def p80 (T : Tab) (I : Nat → Env → Env → Prop) (M : Nat → Env → Env → Nat) (pre : Nat → List Int → List (List Int) → Prop) (post : List Int → List (List Int) → Prop) (v0 v1 v2 v3 v4 v5 : Int) : Prop :=
 ((pre 83 [v0, v1, v2, v3, v4, v5] []) ∧ ((pre 83 [v0, v1, v2, v3, v4, v5] []) →
 ∀ v6 : Int, [v6] = T.out 83 1 [v0, v1, v2, v3, v4, v5] →
 ((decide ((v6 : Int) = 1) = true →
  post [v0, v1, v2, v3, v4, v5] []) ∧ (decide ((v6 : Int) = 1) = false →
  ((pre 85 [v0, v1, v2, v3, v4, v5] []) ∧ ((pre 85 [v0, v1, v2, v3, v4, v5] []) →
  ∀ v7 : Int, [v7] = T.out 85 1 [v0, v1, v2, v3, v4, v5] →
  ((pre 84 [1, 0, 0, 0, 0, 0, ((v7 + 1) / 2)] []) ∧ ((pre 84 [1, 0, 0, 0, 0, 0, ((v7 + 1) / 2)] []) →
  ∀ v8 v9 v10 v11 v12 v13 : Int, [v8, v9, v10, v11, v12, v13] = T.out 84 6 [1, 0, 0, 0, 0, 0, ((v7 + 1) / 2)] →
  ((allHas [⟨0, 2000000⟩, ⟨0, 0⟩, ⟨0, 0⟩, ⟨0, 0⟩, ⟨0, 0⟩, ⟨0, 0⟩] [v8, v9, v10, v11, v12, v13] ∧ I 0 ⟨[v0, v1, v2, v3, v4, v5, v6, v7, v8, v9, v10, v11, v12, v13], []⟩ ⟨[v8, v9, v10, v11, v12, v13], []⟩) ∧ ∀ v14 v15 v16 v17 v18 v19 : Int, allHas [⟨0, 2000000⟩, ⟨0, 0⟩, ⟨0, 0⟩, ⟨0, 0⟩, ⟨0, 0⟩, ⟨0, 0⟩] [v14, v15, v16, v17, v18, v19] → I 0 ⟨[v0, v1, v2, v3, v4, v5, v6, v7, v8, v9, v10, v11, v12, v13], []⟩ ⟨[v14, v15, v16, v17, v18, v19], []⟩ →
   ((pre 86 [v0, v1, v2, v3, v4, v5, v14, v15, v16, v17, v18, v19] []) ∧ ((pre 86 [v0, v1, v2, v3, v4, v5, v14, v15, v16, v17, v18, v19] []) →
   ∀ v20 v21 v22 v23 v24 v25 v26 v27 v28 v29 v30 v31 : Int, [v20, v21, v22, v23, v24, v25, v26, v27, v28, v29, v30, v31] = T.out 86 12 [v0, v1, v2, v3, v4, v5, v14, v15, v16, v17, v18, v19] →
   ((pre 87 [v14, v15, v16, v17, v18, v19, v20, v21, v22, v23, v24, v25] []) ∧ ((pre 87 [v14, v15, v16, v17, v18, v19, v20, v21, v22, v23, v24, v25] []) →
   ∀ v32 v33 v34 v35 v36 v37 v38 : Int, [v32, v33, v34, v35, v36, v37, v38] = T.out 87 7 [v14, v15, v16, v17, v18, v19, v20, v21, v22, v23, v24, v25] →
   ((pre 88 [v32, v33, v34, v35, v36, v37, 1] []) ∧ ((pre 88 [v32, v33, v34, v35, v36, v37, 1] []) →
   ∀ v39 v40 v41 v42 v43 v44 : Int, [v39, v40, v41, v42, v43, v44] = T.out 88 6 [v32, v33, v34, v35, v36, v37, 1] →
   ((pre 78 [v39, v40, v41, v42, v43, v44, v14, v15, v16, v17, v18, v19] []) ∧ ((pre 78 [v39, v40, v41, v42, v43, v44, v14, v15, v16, v17, v18, v19] []) →
   ∀ v45 : Int, [v45] = T.out 78 1 [v39, v40, v41, v42, v43, v44, v14, v15, v16, v17, v18, v19] →
   ((decide ((0 : Int) ≤ v45) = true →
    post [v14, v15, v16, v17, v18, v19] []) ∧ (decide ((0 : Int) ≤ v45) = false →
    (allHas [⟨0, 2000000⟩, ⟨0, 0⟩, ⟨0, 0⟩, ⟨0, 0⟩, ⟨0, 0⟩, ⟨0, 0⟩] [v39, v40, v41, v42, v43, v44] ∧ I 0 ⟨[v0, v1, v2, v3, v4, v5, v6, v7, v8, v9, v10, v11, v12, v13], []⟩ ⟨[v39, v40, v41, v42, v43, v44], []⟩ ∧ M 0 ⟨[v0, v1, v2, v3, v4, v5, v6, v7, v8, v9, v10, v11, v12, v13], []⟩ ⟨[v39, v40, v41, v42, v43, v44], []⟩ < M 0 ⟨[v0, v1, v2, v3, v4, v5, v6, v7, v8, v9, v10, v11, v12, v13], []⟩ ⟨[v14, v15, v16, v17, v18, v19], []⟩))))))))))))))))))))
theorem q80 (T : Tab) (I : Nat → Env → Env → Prop) (M : Nat → Env → Env → Nat) (pre : Nat → List Int → List (List Int) → Prop) (post : List Int → List (List Int) → Prop) (v0 v1 v2 v3 v4 v5 : Int) : t80.plain T (presG pre I M) post ⟨[v0, v1, v2, v3, v4, v5], []⟩ = p80 T I M pre post v0 v1 v2 v3 v4 v5 := by kernel_rfl
theorem k80 (T : Tab) (I : Nat → Env → Env → Prop) (M : Nat → Env → Env → Nat) (pre : Nat → List Int → List (List Int) → Prop) (hs : SubSig T c80.sigs) (ht : TotG pre c80.sigs) (hg : T.sig 80 = some s80) (hC : CtAll Try.prog T.fns (presQ pre) c80.sigs) (hk : CpAll Try.prog c80.cps) (hi : ∀ xs ls, allHas (parIvs s80.params) xs → pre 80 xs ls → allHas iv80 xs)
    (h : ∀ (v0 v1 v2 v3 v4 v5 : Int), allHas iv80 [v0, v1, v2, v3, v4, v5] → allL (parLvs s80.params) [] → pre 80 [v0, v1, v2, v3, v4, v5] [] → p80 T I M pre (fun ys _ => ys = T.app 80 [v0, v1, v2, v3, v4, v5] []) v0 v1 v2 v3 v4 v5) : CT Try.prog T.fns (presQ pre) 80 s80 :=
  T.ctg (F := ⟨c80, [(4, ⟨0, [], [2], [19, 20, 21, 18, 22, 23, 4, 5, 25, 26, 27, 24, 28, 29, 6, 7, 30, 31, 8, 32, 33, 34, 35, 36, 37], [⟨0, 2000000⟩, ⟨0, 0⟩, ⟨0, 0⟩, ⟨0, 0⟩, ⟨0, 0⟩, ⟨0, 0⟩], [], []⟩)]⟩) (fuel := 250) vc80 Try.checked.mixed hs ht hg hC hk Try.func80 I M (fun xs ls h1 h2 h3 => ⟨hi xs ls h1 h3, h2⟩) fun xs ls hx hl hp => by
    match xs, ls, hx, hl, hp with
    | [v0, v1, v2, v3, v4, v5], [], hx, hl, hp => rw [q80]; exact h v0 v1 v2 v3 v4 v5 hx hl hp
/-- loop.example/g01242/impl.ValidWide -/
def s48 : Sig := ⟨[.val true [.b, .i .u32, .i .u32, .i .u32, .i .u32, .i .u32, .i .u32]], [(false, [.b])], false⟩
noncomputable def c48 : Cfg := ⟨Try.prog, [], [], [], [], []⟩
def iv48 : List Iv := [⟨0, 1⟩, ⟨0, 4294967295⟩, ⟨0, 4294967295⟩, ⟨0, 4294967295⟩, ⟨0, 4294967295⟩, ⟨0, 4294967295⟩, ⟨0, 4294967295⟩]
def t48 : VC :=
 (.ite (.eq (.var 0) (.lit 1))
  (.bind (.ite (.not (.and (.eq (.var 1) (.lit 0)) (.and (.eq (.var 2) (.lit 0)) (.and (.eq (.var 3) (.lit 0)) (.and (.eq (.var 4) (.lit 0)) (.and (.eq (.var 5) (.lit 0)) (.eq (.var 6) (.lit 0)))))))) (.lit 1) (.lit 0))
  (.fin (.e (.var 7) .nil)))
  (.fin (.e (.lit 1) .nil)))
theorem vc48 : vcOfI ⟨c48, []⟩ iv48 (parLvs s48.params) 250 Try.f48 s48 = t48 := by kernel_rfl
set_option linter.unusedVariables false in
def p48 (T : Tab) (I : Nat → Env → Env → Prop) (M : Nat → Env → Env → Nat) (pre : Nat → List Int → List (List Int) → Prop) (post : List Int → List (List Int) → Prop) (v0 v1 v2 v3 v4 v5 v6 : Int) : Prop :=
 ((decide ((v0 : Int) = 1) = true →
  ∀ v7 : Int, v7 = (if (!(decide ((v1 : Int) = 0) && (decide ((v2 : Int) = 0) && (decide ((v3 : Int) = 0) && (decide ((v4 : Int) = 0) && (decide ((v5 : Int) = 0) && decide ((v6 : Int) = 0))))))) = true then 1 else 0) →
  post [v7] []) ∧ (decide ((v0 : Int) = 1) = false →
  post [1] []))
theorem q48 (T : Tab) (I : Nat → Env → Env → Prop) (M : Nat → Env → Env → Nat) (pre : Nat → List Int → List (List Int) → Prop) (post : List Int → List (List Int) → Prop) (v0 v1 v2 v3 v4 v5 v6 : Int) : t48.plain T (presG pre I M) post ⟨[v0, v1, v2, v3, v4, v5, v6], []⟩ = p48 T I M pre post v0 v1 v2 v3 v4 v5 v6 := by kernel_rfl
theorem k48 (T : Tab) (I : Nat → Env → Env → Prop) (M : Nat → Env → Env → Nat) (pre : Nat → List Int → List (List Int) → Prop) (hs : SubSig T c48.sigs) (ht : TotG pre c48.sigs) (hg : T.sig 48 = some s48) (hC : CtAll Try.prog T.fns (presQ pre) c48.sigs) (hk : CpAll Try.prog c48.cps) (hi : ∀ xs ls, allHas (parIvs s48.params) xs → pre 48 xs ls → allHas iv48 xs)
    (h : ∀ (v0 v1 v2 v3 v4 v5 v6 : Int), allHas iv48 [v0, v1, v2, v3, v4, v5, v6] → allL (parLvs s48.params) [] → pre 48 [v0, v1, v2, v3, v4, v5, v6] [] → p48 T I M pre (fun ys _ => ys = T.app 48 [v0, v1, v2, v3, v4, v5, v6] []) v0 v1 v2 v3 v4 v5 v6) : CT Try.prog T.fns (presQ pre) 48 s48 :=
  T.ctg (F := ⟨c48, []⟩) (fuel := 250) vc48 Try.checked.mixed hs ht hg hC hk Try.func48 I M (fun xs ls h1 h2 h3 => ⟨hi xs ls h1 h3, h2⟩) fun xs ls hx hl hp => by
    match xs, ls, hx, hl, hp with
    | [v0, v1, v2, v3, v4, v5, v6], [], hx, hl, hp => rw [q48]; exact h v0 v1 v2 v3 v4 v5 v6 hx hl hp
/-- loop.example/g01242/impl.wideOfSize -/
def s79 : Sig := ⟨[.val false [.b], .val true [.i .u32, .i .u32, .i .u32, .i .u32, .i .u32, .i .u32]], [(true, [.b, .i .u32, .i .u32, .i .u32, .i .u32, .i .u32, .i .u32])], false⟩
noncomputable def c79 : Cfg := ⟨Try.prog, [(83, s83)], [], [], [], []⟩
def iv79 : List Iv := [⟨0, 1⟩, ⟨0, 2000000⟩, ⟨0, 0⟩, ⟨0, 0⟩, ⟨0, 0⟩, ⟨0, 0⟩, ⟨0, 0⟩]
def t79 : VC :=
 (.ite (.eq (.var 0) (.lit 1))
  (.need [(.pre 83 (.e (.var 1) (.e (.var 2) (.e (.var 3) (.e (.var 4) (.e (.var 5) (.e (.var 6) .nil)))))))]
  (.call 83 (.e (.var 1) (.e (.var 2) (.e (.var 3) (.e (.var 4) (.e (.var 5) (.e (.var 6) .nil)))))) 1
  (.fin (.e (.ite (.not (.eq (.var 7) (.lit 1))) (.lit 1) (.lit 0)) (.e (.var 1) (.e (.var 2) (.e (.var 3) (.e (.var 4) (.e (.var 5) (.e (.var 6) .nil))))))))))
  (.fin (.e (.lit 0) (.e (.var 1) (.e (.var 2) (.e (.var 3) (.e (.var 4) (.e (.var 5) (.e (.var 6) .nil)))))))))
theorem vc79 : vcOfI ⟨c79, []⟩ iv79 (parLvs s79.params) 250 Try.f79 s79 = t79 := by kernel_rfl
set_option linter.unusedVariables false in
def p79 (T : Tab) (I : Nat → Env → Env → Prop) (M : Nat → Env → Env → Nat) (pre : Nat → List Int → List (List Int) → Prop) (post : List Int → List (List Int) → Prop) (v0 v1 v2 v3 v4 v5 v6 : Int) : Prop :=
 ((decide ((v0 : Int) = 1) = true →
  ((pre 83 [v1, v2, v3, v4, v5, v6] []) ∧ ((pre 83 [v1, v2, v3, v4, v5, v6] []) →
  ∀ v7 : Int, [v7] = T.out 83 1 [v1, v2, v3, v4, v5, v6] →
  post [(if (!decide ((v7 : Int) = 1)) = true then 1 else 0), v1, v2, v3, v4, v5, v6] []))) ∧ (decide ((v0 : Int) = 1) = false →
  post [0, v1, v2, v3, v4, v5, v6] []))
theorem q79 (T : Tab) (I : Nat → Env → Env → Prop) (M : Nat → Env → Env → Nat) (pre : Nat → List Int → List (List Int) → Prop) (post : List Int → List (List Int) → Prop) (v0 v1 v2 v3 v4 v5 v6 : Int) : t79.plain T (presG pre I M) post ⟨[v0, v1, v2, v3, v4, v5, v6], []⟩ = p79 T I M pre post v0 v1 v2 v3 v4 v5 v6 := by kernel_rfl
theorem k79 (T : Tab) (I : Nat → Env → Env → Prop) (M : Nat → Env → Env → Nat) (pre : Nat → List Int → List (List Int) → Prop) (hs : SubSig T c79.sigs) (ht : TotG pre c79.sigs) (hg : T.sig 79 = some s79) (hC : CtAll Try.prog T.fns (presQ pre) c79.sigs) (hk : CpAll Try.prog c79.cps) (hi : ∀ xs ls, allHas (parIvs s79.params) xs → pre 79 xs ls → allHas iv79 xs)
    (h : ∀ (v0 v1 v2 v3 v4 v5 v6 : Int), allHas iv79 [v0, v1, v2, v3, v4, v5, v6] → allL (parLvs s79.params) [] → pre 79 [v0, v1, v2, v3, v4, v5, v6] [] → p79 T I M pre (fun ys _ => ys = T.app 79 [v0, v1, v2, v3, v4, v5, v6] []) v0 v1 v2 v3 v4 v5 v6) : CT Try.prog T.fns (presQ pre) 79 s79 :=
  T.ctg (F := ⟨c79, []⟩) (fuel := 250) vc79 Try.checked.mixed hs ht hg hC hk Try.func79 I M (fun xs ls h1 h2 h3 => ⟨hi xs ls h1 h3, h2⟩) fun xs ls hx hl hp => by
    match xs, ls, hx, hl, hp with
    | [v0, v1, v2, v3, v4, v5, v6], [], hx, hl, hp => rw [q79]; exact h v0 v1 v2 v3 v4 v5 v6 hx hl hp
/-- loop.example/g01242/impl.WideOf -/
def s72 : Sig := ⟨[.val false [.i .i64]], [(true, [.b, .i .u32, .i .u32, .i .u32, .i .u32, .i .u32, .i .u32])], false⟩
noncomputable def c72 : Cfg := ⟨Try.prog, [(79, s79)], [], [], [], []⟩
def iv72 : List Iv := [⟨0, 1000000⟩]
def t72 : VC :=
 (.need [(.pre 79 (.e (.lit 0) (.e (.var 0) (.e (.lit 0) (.e (.lit 0) (.e (.lit 0) (.e (.lit 0) (.e (.lit 0) .nil))))))))]
 (.call 79 (.e (.lit 0) (.e (.var 0) (.e (.lit 0) (.e (.lit 0) (.e (.lit 0) (.e (.lit 0) (.e (.lit 0) .nil))))))) 7
 (.fin (.e (.var 1) (.e (.var 2) (.e (.var 3) (.e (.var 4) (.e (.var 5) (.e (.var 6) (.e (.var 7) .nil))))))))))
theorem vc72 : vcOfI ⟨c72, []⟩ iv72 (parLvs s72.params) 250 Try.f72 s72 = t72 := by kernel_rfl
set_option linter.unusedVariables false in
def p72 (T : Tab) (I : Nat → Env → Env → Prop) (M : Nat → Env → Env → Nat) (pre : Nat → List Int → List (List Int) → Prop) (post : List Int → List (List Int) → Prop) (v0 : Int) : Prop :=
 ((pre 79 [0, v0, 0, 0, 0, 0, 0] []) ∧ ((pre 79 [0, v0, 0, 0, 0, 0, 0] []) →
 ∀ v1 v2 v3 v4 v5 v6 v7 : Int, [v1, v2, v3, v4, v5, v6, v7] = T.out 79 7 [0, v0, 0, 0, 0, 0, 0] →
 post [v1, v2, v3, v4, v5, v6, v7] []))
theorem q72 (T : Tab) (I : Nat → Env → Env → Prop) (M : Nat → Env → Env → Nat) (pre : Nat → List Int → List (List Int) → Prop) (post : List Int → List (List Int) → Prop) (v0 : Int) : t72.plain T (presG pre I M) post ⟨[v0], []⟩ = p72 T I M pre post v0 := by kernel_rfl
theorem k72 (T : Tab) (I : Nat → Env → Env → Prop) (M : Nat → Env → Env → Nat) (pre : Nat → List Int → List (List Int) → Prop) (hs : SubSig T c72.sigs) (ht : TotG pre c72.sigs) (hg : T.sig 72 = some s72) (hC : CtAll Try.prog T.fns (presQ pre) c72.sigs) (hk : CpAll Try.prog c72.cps) (hi : ∀ xs ls, allHas (parIvs s72.params) xs → pre 72 xs ls → allHas iv72 xs)
    (h : ∀ (v0 : Int), allHas iv72 [v0] → allL (parLvs s72.params) [] → pre 72 [v0] [] → p72 T I M pre (fun ys _ => ys = T.app 72 [v0] []) v0) : CT Try.prog T.fns (presQ pre) 72 s72 :=
  T.ctg (F := ⟨c72, []⟩) (fuel := 250) vc72 Try.checked.mixed hs ht hg hC hk Try.func72 I M (fun xs ls h1 h2 h3 => ⟨hi xs ls h1 h3, h2⟩) fun xs ls hx hl hp => by
    match xs, ls, hx, hl, hp with
    | [v0], [], hx, hl, hp => rw [q72]; exact h v0 hx hl hp
/-- loop.example/g01242/impl.RootWide -/
def s71 : Sig := ⟨[.val true [.b, .i .u32, .i .u32, .i .u32, .i .u32, .i .u32, .i .u32]], [(true, [.b, .i .u32, .i .u32, .i .u32, .i .u32, .i .u32, .i .u32]), (false, [.i .i64])], false⟩
noncomputable def c71 : Cfg := ⟨Try.prog, [(48, s48), (80, s80), (79, s79)], [], [], [], []⟩
def iv71 : List Iv := [⟨0, 1⟩, ⟨0, 1000000⟩, ⟨0, 0⟩, ⟨0, 0⟩, ⟨0, 0⟩, ⟨0, 0⟩, ⟨0, 0⟩]
def t71 : VC :=
 (.need [(.pre 48 (.e (.var 0) (.e (.var 1) (.e (.var 2) (.e (.var 3) (.e (.var 4) (.e (.var 5) (.e (.var 6) .nil))))))))]
 (.call 48 (.e (.var 0) (.e (.var 1) (.e (.var 2) (.e (.var 3) (.e (.var 4) (.e (.var 5) (.e (.var 6) .nil))))))) 1
 (.ite (.not (.eq (.var 7) (.lit 1)))
  (.fin (.e (.lit 0) (.e (.lit 0) (.e (.lit 0) (.e (.lit 0) (.e (.lit 0) (.e (.lit 0) (.e (.lit 0) (.e (.lit 1) .nil)))))))))
  (.ite (.eq (.var 0) (.lit 1))
   (.fin (.e (.lit 0) (.e (.lit 0) (.e (.lit 0) (.e (.lit 0) (.e (.lit 0) (.e (.lit 0) (.e (.lit 0) (.e (.lit 2) .nil)))))))))
   (.need [(.pre 80 (.e (.var 1) (.e (.var 2) (.e (.var 3) (.e (.var 4) (.e (.var 5) (.e (.var 6) .nil)))))))]
   (.call 80 (.e (.var 1) (.e (.var 2) (.e (.var 3) (.e (.var 4) (.e (.var 5) (.e (.var 6) .nil)))))) 6
   (.need [(.pre 79 (.e (.lit 0) (.e (.var 8) (.e (.var 9) (.e (.var 10) (.e (.var 11) (.e (.var 12) (.e (.var 13) .nil))))))))]
   (.call 79 (.e (.lit 0) (.e (.var 8) (.e (.var 9) (.e (.var 10) (.e (.var 11) (.e (.var 12) (.e (.var 13) .nil))))))) 7
   (.fin (.e (.var 14) (.e (.var 15) (.e (.var 16) (.e (.var 17) (.e (.var 18) (.e (.var 19) (.e (.var 20) (.e (.lit 0) .nil)))))))))))))))))
theorem vc71 : vcOfI ⟨c71, []⟩ iv71 (parLvs s71.params) 250 Try.f71 s71 = t71 := by kernel_rfl
set_option linter.unusedVariables false in
def p71 (T : Tab) (I : Nat → Env → Env → Prop) (M : Nat → Env → Env → Nat) (pre : Nat → List Int → List (List Int) → Prop) (post : List Int → List (List Int) → Prop) (v0 v1 v2 v3 v4 v5 v6 : Int) : Prop :=
 ((pre 48 [v0, v1, v2, v3, v4, v5, v6] []) ∧ ((pre 48 [v0, v1, v2, v3, v4, v5, v6] []) →
 ∀ v7 : Int, [v7] = T.out 48 1 [v0, v1, v2, v3, v4, v5, v6] →
 (((!decide ((v7 : Int) = 1)) = true →
  post [0, 0, 0, 0, 0, 0, 0, 1] []) ∧ ((!decide ((v7 : Int) = 1)) = false →
  ((decide ((v0 : Int) = 1) = true →
   post [0, 0, 0, 0, 0, 0, 0, 2] []) ∧ (decide ((v0 : Int) = 1) = false →
   ((pre 80 [v1, v2, v3, v4, v5, v6] []) ∧ ((pre 80 [v1, v2, v3, v4, v5, v6] []) →
   ∀ v8 v9 v10 v11 v12 v13 : Int, [v8, v9, v10, v11, v12, v13] = T.out 80 6 [v1, v2, v3, v4, v5, v6] →
   ((pre 79 [0, v8, v9, v10, v11, v12, v13] []) ∧ ((pre 79 [0, v8, v9, v10, v11, v12, v13] []) →
   ∀ v14 v15 v16 v17 v18 v19 v20 : Int, [v14, v15, v16, v17, v18, v19, v20] = T.out 79 7 [0, v8, v9, v10, v11, v12, v13] →
   post [v14, v15, v16, v17, v18, v19, v20, 0] []))))))))))
theorem q71 (T : Tab) (I : Nat → Env → Env → Prop) (M : Nat → Env → Env → Nat) (pre : Nat → List Int → List (List Int) → Prop) (post : List Int → List (List Int) → Prop) (v0 v1 v2 v3 v4 v5 v6 : Int) : t71.plain T (presG pre I M) post ⟨[v0, v1, v2, v3, v4, v5, v6], []⟩ = p71 T I M pre post v0 v1 v2 v3 v4 v5 v6 := by kernel_rfl
theorem k71 (T : Tab) (I : Nat → Env → Env → Prop) (M : Nat → Env → Env → Nat) (pre : Nat → List Int → List (List Int) → Prop) (hs : SubSig T c71.sigs) (ht : TotG pre c71.sigs) (hg : T.sig 71 = some s71) (hC : CtAll Try.prog T.fns (presQ pre) c71.sigs) (hk : CpAll Try.prog c71.cps) (hi : ∀ xs ls, allHas (parIvs s71.params) xs → pre 71 xs ls → allHas iv71 xs)
    (h : ∀ (v0 v1 v2 v3 v4 v5 v6 : Int), allHas iv71 [v0, v1, v2, v3, v4, v5, v6] → allL (parLvs s71.params) [] → pre 71 [v0, v1, v2, v3, v4, v5, v6] [] → p71 T I M pre (fun ys _ => ys = T.app 71 [v0, v1, v2, v3, v4, v5, v6] []) v0 v1 v2 v3 v4 v5 v6) : CT Try.prog T.fns (presQ pre) 71 s71 :=
  T.ctg (F := ⟨c71, []⟩) (fuel := 250) vc71 Try.checked.mixed hs ht hg hC hk Try.func71 I M (fun xs ls h1 h2 h3 => ⟨hi xs ls h1 h3, h2⟩) fun xs ls hx hl hp => by
    match xs, ls, hx, hl, hp with
    | [v0, v1, v2, v3, v4, v5, v6], [], hx, hl, hp => rw [q71]; exact h v0 v1 v2 v3 v4 v5 v6 hx hl hp
/-- loop.example/g01242/impl.NarrowOf -/
def s73 : Sig := ⟨[.val true [.b, .i .u32, .i .u32, .i .u32, .i .u32, .i .u32, .i .u32]], [(false, [.i .i64]), (false, [.i .i64])], false⟩
noncomputable def c73 : Cfg := ⟨Try.prog, [(48, s48), (72, s72)], [], [], [], []⟩
def iv73 : List Iv := [⟨0, 1⟩, ⟨0, 1000000⟩, ⟨0, 0⟩, ⟨0, 0⟩, ⟨0, 0⟩, ⟨0, 0⟩, ⟨0, 0⟩]
def t73 : VC :=
 (.need [(.pre 48 (.e (.var 0) (.e (.var 1) (.e (.var 2) (.e (.var 3) (.e (.var 4) (.e (.var 5) (.e (.var 6) .nil))))))))]
 (.call 48 (.e (.var 0) (.e (.var 1) (.e (.var 2) (.e (.var 3) (.e (.var 4) (.e (.var 5) (.e (.var 6) .nil))))))) 1
 (.ite (.not (.eq (.var 7) (.lit 1)))
  (.fin (.e (.lit 0) (.e (.lit 1) .nil)))
  (.bind (.bits .or .u64 (.lit 0) (.var 1))
  (.bind (.wrap .i64 (.var 8))
  (.ite (.eq (.var 0) (.lit 1))
   (.bind (.wrap .i64 (.sub (.lit 0) (.var 9)))
   (.need [(.pre 72 (.e (.var 10) .nil))]
   (.call 72 (.e (.var 10) .nil) 7
   (.ite (.not (.and (.beq (.eq (.var 11) (.lit 1)) (.eq (.var 0) (.lit 1))) (.and (.eq (.var 12) (.var 1)) (.and (.eq (.var 13) (.var 2)) (.and (.eq (.var 14) (.var 3)) (.and (.eq (.var 15) (.var 4)) (.and (.eq (.var 16) (.var 5)) (.eq (.var 17) (.var 6)))))))))
    (.fin (.e (.lit 0) (.e (.lit 2) .nil)))
    (.fin (.e (.var 10) (.e (.lit 0) .nil)))))))
   (.need [(.pre 72 (.e (.var 9) .nil))]
   (.call 72 (.e (.var 9) .nil) 7
   (.ite (.not (.and (.beq (.eq (.var 10) (.lit 1)) (.eq (.var 0) (.lit 1))) (.and (.eq (.var 11) (.var 1)) (.and (.eq (.var 12) (.var 2)) (.and (.eq (.var 13) (.var 3)) (.and (.eq (.var 14) (.var 4)) (.and (.eq (.var 15) (.var 5)) (.eq (.var 16) (.var 6)))))))))
    (.fin (.e (.lit 0) (.e (.lit 2) .nil)))
    (.fin (.e (.var 9) (.e (.lit 0) .nil))))))))))))
theorem vc73 : vcOfI ⟨c73, []⟩ iv73 (parLvs s73.params) 250 Try.f73 s73 = t73 := by kernel_rfl
set_option linter.unusedVariables false in
def p73 (T : Tab) (I : Nat → Env → Env → Prop) (M : Nat → Env → Env → Nat) (pre : Nat → List Int → List (List Int) → Prop) (post : List Int → List (List Int) → Prop) (v0 v1 v2 v3 v4 v5 v6 : Int) : Prop :=
 ((pre 48 [v0, v1, v2, v3, v4, v5, v6] []) ∧ ((pre 48 [v0, v1, v2, v3, v4, v5, v6] []) →
 ∀ v7 : Int, [v7] = T.out 48 1 [v0, v1, v2, v3, v4, v5, v6] →
 (((!decide ((v7 : Int) = 1)) = true →
  post [0, 1] []) ∧ ((!decide ((v7 : Int) = 1)) = false →
  ∀ v8 : Int, v8 = (bitsInt .or .u64 0 v1) →
  ∀ v9 : Int, v9 = (IntKind.wrap .i64 v8) →
  ((decide ((v0 : Int) = 1) = true →
   ∀ v10 : Int, v10 = (IntKind.wrap .i64 (0 - v9)) →
   ((pre 72 [v10] []) ∧ ((pre 72 [v10] []) →
   ∀ v11 v12 v13 v14 v15 v16 v17 : Int, [v11, v12, v13, v14, v15, v16, v17] = T.out 72 7 [v10] →
   (((!((decide ((v11 : Int) = 1) == decide ((v0 : Int) = 1)) && (decide ((v12 : Int) = v1) && (decide ((v13 : Int) = v2) && (decide ((v14 : Int) = v3) && (decide ((v15 : Int) = v4) && (decide ((v16 : Int) = v5) && decide ((v17 : Int) = v6)))))))) = true →
    post [0, 2] []) ∧ ((!((decide ((v11 : Int) = 1) == decide ((v0 : Int) = 1)) && (decide ((v12 : Int) = v1) && (decide ((v13 : Int) = v2) && (decide ((v14 : Int) = v3) && (decide ((v15 : Int) = v4) && (decide ((v16 : Int) = v5) && decide ((v17 : Int) = v6)))))))) = false →
    post [v10, 0] []))))) ∧ (decide ((v0 : Int) = 1) = false →
   ((pre 72 [v9] []) ∧ ((pre 72 [v9] []) →
   ∀ v10 v11 v12 v13 v14 v15 v16 : Int, [v10, v11, v12, v13, v14, v15, v16] = T.out 72 7 [v9] →
   (((!((decide ((v10 : Int) = 1) == decide ((v0 : Int) = 1)) && (decide ((v11 : Int) = v1) && (decide ((v12 : Int) = v2) && (decide ((v13 : Int) = v3) && (decide ((v14 : Int) = v4) && (decide ((v15 : Int) = v5) && decide ((v16 : Int) = v6)))))))) = true →
    post [0, 2] []) ∧ ((!((decide ((v10 : Int) = 1) == decide ((v0 : Int) = 1)) && (decide ((v11 : Int) = v1) && (decide ((v12 : Int) = v2) && (decide ((v13 : Int) = v3) && (decide ((v14 : Int) = v4) && (decide ((v15 : Int) = v5) && decide ((v16 : Int) = v6)))))))) = false →
    post [v9, 0] []))))))))))
theorem q73 (T : Tab) (I : Nat → Env → Env → Prop) (M : Nat → Env → Env → Nat) (pre : Nat → List Int → List (List Int) → Prop) (post : List Int → List (List Int) → Prop) (v0 v1 v2 v3 v4 v5 v6 : Int) : t73.plain T (presG pre I M) post ⟨[v0, v1, v2, v3, v4, v5, v6], []⟩ = p73 T I M pre post v0 v1 v2 v3 v4 v5 v6 := by kernel_rfl
theorem k73 (T : Tab) (I : Nat → Env → Env → Prop) (M : Nat → Env → Env → Nat) (pre : Nat → List Int → List (List Int) → Prop) (hs : SubSig T c73.sigs) (ht : TotG pre c73.sigs) (hg : T.sig 73 = some s73) (hC : CtAll Try.prog T.fns (presQ pre) c73.sigs) (hk : CpAll Try.prog c73.cps) (hi : ∀ xs ls, allHas (parIvs s73.params) xs → pre 73 xs ls → allHas iv73 xs)
    (h : ∀ (v0 v1 v2 v3 v4 v5 v6 : Int), allHas iv73 [v0, v1, v2, v3, v4, v5, v6] → allL (parLvs s73.params) [] → pre 73 [v0, v1, v2, v3, v4, v5, v6] [] → p73 T I M pre (fun ys _ => ys = T.app 73 [v0, v1, v2, v3, v4, v5, v6] []) v0 v1 v2 v3 v4 v5 v6) : CT Try.prog T.fns (presQ pre) 73 s73 :=
  T.ctg (F := ⟨c73, []⟩) (fuel := 250) vc73 Try.checked.mixed hs ht hg hC hk Try.func73 I M (fun xs ls h1 h2 h3 => ⟨hi xs ls h1 h3, h2⟩) fun xs ls hx hl hp => by
    match xs, ls, hx, hl, hp with
    | [v0, v1, v2, v3, v4, v5, v6], [], hx, hl, hp => rw [q73]; exact h v0 v1 v2 v3 v4 v5 v6 hx hl hp
/-- loop.example/g01242/spec.l00In -/
def s62 : Sig := ⟨[.val false [.i .i64], .val false [.i .i64], .val false [.i .i64]], [(false, [.b])], true⟩
noncomputable def c62 : Cfg := ⟨Try.prog, [], [], [], [], []⟩
def iv62 : List Iv := [⟨(-9223372036854775808), 9223372036854775807⟩, ⟨(-9223372036854775808), 9223372036854775807⟩, ⟨(-9223372036854775808), 9223372036854775807⟩]
def t62 : VC :=
 (.ite (.le (.var 1) (.var 0))
  (.fin (.e (.ite (.le (.var 0) (.var 2)) (.lit 1) (.lit 0)) .nil))
  (.fin (.e (.lit 0) .nil)))
theorem vc62 : vcOfI ⟨c62, []⟩ iv62 (parLvs s62.params) 250 Try.f62 s62 = t62 := by kernel_rfl
set_option linter.unusedVariables false in
def p62 (T : Tab) (I : Nat → Env → Env → Prop) (M : Nat → Env → Env → Nat) (pre : Nat → List Int → List (List Int) → Prop) (post : List Int → List (List Int) → Prop) (v0 v1 v2 : Int) : Prop :=
 ((decide ((v1 : Int) ≤ v0) = true →
  post [(if decide ((v0 : Int) ≤ v2) = true then 1 else 0)] []) ∧ (decide ((v1 : Int) ≤ v0) = false →
  post [0] []))
theorem q62 (T : Tab) (I : Nat → Env → Env → Prop) (M : Nat → Env → Env → Nat) (pre : Nat → List Int → List (List Int) → Prop) (post : List Int → List (List Int) → Prop) (v0 v1 v2 : Int) : t62.plain T (presG pre I M) post ⟨[v0, v1, v2], []⟩ = p62 T I M pre post v0 v1 v2 := by kernel_rfl
theorem k62 (T : Tab) (I : Nat → Env → Env → Prop) (M : Nat → Env → Env → Nat) (pre : Nat → List Int → List (List Int) → Prop) (hs : SubSig T c62.sigs) (ht : TotG pre c62.sigs) (hg : T.sig 62 = some s62) (hC : CtAll Try.prog T.fns (presQ pre) c62.sigs) (hk : CpAll Try.prog c62.cps) (hi : ∀ xs ls, allHas (parIvs s62.params) xs → pre 62 xs ls → allHas iv62 xs)
    (h : ∀ (v0 v1 v2 : Int), allHas iv62 [v0, v1, v2] → allL (parLvs s62.params) [] → pre 62 [v0, v1, v2] [] → p62 T I M pre (fun ys _ => ys = T.app 62 [v0, v1, v2] []) v0 v1 v2) : CT Try.prog T.fns (presQ pre) 62 s62 :=
  T.ctg (F := ⟨c62, []⟩) (fuel := 250) vc62 Try.checked.mixed hs ht hg hC hk Try.func62 I M (fun xs ls h1 h2 h3 => ⟨hi xs ls h1 h3, h2⟩) fun xs ls hx hl hp => by
    match xs, ls, hx, hl, hp with
    | [v0, v1, v2], [], hx, hl, hp => rw [q62]; exact h v0 v1 v2 hx hl hp
/-- loop.example/g01242/spec.l04Root -/
def s70 : Sig := ⟨[.val false [.i .i64]], [(false, [.i .i64])], false⟩
noncomputable def c70 : Cfg := ⟨Try.prog, [], [], [], [], []⟩
def iv70 : List Iv := [⟨0, 1000000⟩]
def t70 : VC :=
 (.loop 0 [(.lit 0)] [] [⟨(-9223372036854775808), 9223372036854775807⟩] []
  (.ite (.le (.wrap .i64 (.mul (.wrap .i64 (.add (.var 1) (.lit 1))) (.wrap .i64 (.add (.var 1) (.lit 1))))) (.var 0))
   (.bind (.wrap .i64 (.add (.var 1) (.lit 1)))
   (.again 0 1 0 [⟨(-9223372036854775808), 9223372036854775807⟩] [(.var 2)] []))
   (.fin (.e (.var 1) .nil))))
theorem vc70 : vcOfI ⟨c70, [(2, ⟨0, [3], [], [4, 5, 6, 7, 8, 9, 10, 11, 12], [⟨(-9223372036854775808), 9223372036854775807⟩], [], []⟩)]⟩ iv70 (parLvs s70.params) 250 Try.f70 s70 = t70 := by kernel_rfl
set_option linter.unusedVariables false in
def p70 (T : Tab) (I : Nat → Env → Env → Prop) (M : Nat → Env → Env → Nat) (pre : Nat → List Int → List (List Int) → Prop) (post : List Int → List (List Int) → Prop) (v0 : Int) : Prop :=
 ((allHas [⟨(-9223372036854775808), 9223372036854775807⟩] [0] ∧ I 0 ⟨[v0], []⟩ ⟨[0], []⟩) ∧ ∀ v1 : Int, allHas [⟨(-9223372036854775808), 9223372036854775807⟩] [v1] → I 0 ⟨[v0], []⟩ ⟨[v1], []⟩ →
  ((decide (((IntKind.wrap .i64 ((IntKind.wrap .i64 (v1 + 1)) * (IntKind.wrap .i64 (v1 + 1)))) : Int) ≤ v0) = true →
   ∀ v2 : Int, v2 = (IntKind.wrap .i64 (v1 + 1)) →
   (allHas [⟨(-9223372036854775808), 9223372036854775807⟩] [v2] ∧ I 0 ⟨[v0], []⟩ ⟨[v2], []⟩ ∧ M 0 ⟨[v0], []⟩ ⟨[v2], []⟩ < M 0 ⟨[v0], []⟩ ⟨[v1], []⟩)) ∧ (decide (((IntKind.wrap .i64 ((IntKind.wrap .i64 (v1 + 1)) * (IntKind.wrap .i64 (v1 + 1)))) : Int) ≤ v0) = false →
   post [v1] [])))
theorem q70 (T : Tab) (I : Nat → Env → Env → Prop) (M : Nat → Env → Env → Nat) (pre : Nat → List Int → List (List Int) → Prop) (post : List Int → List (List Int) → Prop) (v0 : Int) : t70.plain T (presG pre I M) post ⟨[v0], []⟩ = p70 T I M pre post v0 := by kernel_rfl
theorem k70 (T : Tab) (I : Nat → Env → Env → Prop) (M : Nat → Env → Env → Nat) (pre : Nat → List Int → List (List Int) → Prop) (hs : SubSig T c70.sigs) (ht : TotG pre c70.sigs) (hg : T.sig 70 = some s70) (hC : CtAll Try.prog T.fns (presQ pre) c70.sigs) (hk : CpAll Try.prog c70.cps) (hi : ∀ xs ls, allHas (parIvs s70.params) xs → pre 70 xs ls → allHas iv70 xs)
    (h : ∀ (v0 : Int), allHas iv70 [v0] → allL (parLvs s70.params) [] → pre 70 [v0] [] → p70 T I M pre (fun ys _ => ys = T.app 70 [v0] []) v0) : CT Try.prog T.fns (presQ pre) 70 s70 :=
  T.ctg (F := ⟨c70, [(2, ⟨0, [3], [], [4, 5, 6, 7, 8, 9, 10, 11, 12], [⟨(-9223372036854775808), 9223372036854775807⟩], [], []⟩)]⟩) (fuel := 250) vc70 Try.checked.mixed hs ht hg hC hk Try.func70 I M (fun xs ls h1 h2 h3 => ⟨hi xs ls h1 h3, h2⟩) fun xs ls hx hl hp => by
    match xs, ls, hx, hl, hp with
    | [v0], [], hx, hl, hp => rw [q70]; exact h v0 hx hl hp
end Go.Proofs.Ytfpodondpanmaaa.Sx
