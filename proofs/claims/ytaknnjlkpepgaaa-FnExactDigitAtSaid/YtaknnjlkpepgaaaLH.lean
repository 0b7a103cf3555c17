import Derived.Test.YtaknnjlkpepgaaaSxT
import Derived.Test.YtaknnjlkpepgaaaLC
import Derived.Test.YtaknnjlkpepgaaaChecked
import Derived.KernelRfl
namespace Go.Proofs.Ytaknnjlkpepgaaa.Sx
open Go Go.RowKit
/-- (loop.example/g01242/impl.Stream).at -/
def s82 : Sig := ⟨[.lsts [[.i8], [.i8]], .val false [.i .i64]], [(false, [.i .i8])], false⟩
noncomputable def c82 : Cfg := ⟨Try.prog, [], []⟩
def iv82 : List Iv := [⟨(-9223372036854775808), 9223372036854775807⟩]
def t82 : VC :=
 (.ite (.lt (.var 0) (.len (.var 0)))
  (.need [(.b (.le (.lit 0) (.var 0))), (.b (.lt (.var 0) (.len (.var 0))))]
  (.need [(.b (.lt (.add (.lit 0) (.var 0)) (.len (.var 0))))]
  (.bind (.at (.var 0) (.add (.lit 0) (.var 0)))
  (.fin (.e (.var 1) .nil)))))
  (.need [(.b (.le (.lit 0) (.wrap .i64 (.sub (.var 0) (.len (.var 0)))))), (.b (.lt (.wrap .i64 (.sub (.var 0) (.len (.var 0)))) (.len (.var 1))))]
  (.need [(.b (.lt (.add (.lit 0) (.wrap .i64 (.sub (.var 0) (.len (.var 0))))) (.len (.var 1))))]
  (.bind (.at (.var 1) (.add (.lit 0) (.wrap .i64 (.sub (.var 0) (.len (.var 0))))))
  (.fin (.e (.var 1) .nil))))))
theorem vc82 : vcOfI ⟨c82, []⟩ iv82 (parLvs s82.params) 250 Try.f82 s82 = t82 := by kernel_rfl
set_option linter.unusedVariables false in
def p82 (T : Tab) (I : Nat → Env → Env → Prop) (M : Nat → Env → Env → Nat) (pre : Nat → List Int → List (List Int) → Prop) (post : List Int → List (List Int) → Prop) (v0 : Int) (l0 l1 : List Int) : Prop :=
 ((decide ((v0 : Int) < (List.length l0 : Int)) = true →
  ((decide ((0 : Int) ≤ v0) = true ∧ decide ((v0 : Int) < (List.length l0 : Int)) = true) ∧ ((decide ((0 : Int) ≤ v0) = true ∧ decide ((v0 : Int) < (List.length l0 : Int)) = true) →
  ((decide (((0 + v0) : Int) < (List.length l0 : Int)) = true) ∧ ((decide (((0 + v0) : Int) < (List.length l0 : Int)) = true) →
  ∀ v1 : Int, v1 = (List.getD l0 (Int.toNat (0 + v0)) 0) →
  post [v1] []))))) ∧ (decide ((v0 : Int) < (List.length l0 : Int)) = false →
  ((decide ((0 : Int) ≤ (IntKind.wrap .i64 (v0 - (List.length l0 : Int)))) = true ∧ decide (((IntKind.wrap .i64 (v0 - (List.length l0 : Int))) : Int) < (List.length l1 : Int)) = true) ∧ ((decide ((0 : Int) ≤ (IntKind.wrap .i64 (v0 - (List.length l0 : Int)))) = true ∧ decide (((IntKind.wrap .i64 (v0 - (List.length l0 : Int))) : Int) < (List.length l1 : Int)) = true) →
  ((decide (((0 + (IntKind.wrap .i64 (v0 - (List.length l0 : Int)))) : Int) < (List.length l1 : Int)) = true) ∧ ((decide (((0 + (IntKind.wrap .i64 (v0 - (List.length l0 : Int)))) : Int) < (List.length l1 : Int)) = true) →
  ∀ v1 : Int, v1 = (List.getD l1 (Int.toNat (0 + (IntKind.wrap .i64 (v0 - (List.length l0 : Int))))) 0) →
  post [v1] []))))))
theorem q82 (T : Tab) (I : Nat → Env → Env → Prop) (M : Nat → Env → Env → Nat) (pre : Nat → List Int → List (List Int) → Prop) (post : List Int → List (List Int) → Prop) (v0 : Int) (l0 l1 : List Int) : t82.plain T (presG pre I M) post ⟨[v0], [l0, l1]⟩ = p82 T I M pre post v0 l0 l1 := by kernel_rfl
theorem k82 (T : Tab) (I : Nat → Env → Env → Prop) (M : Nat → Env → Env → Nat) (pre : Nat → List Int → List (List Int) → Prop) (hs : SubSig T c82.sigs) (ht : TotG pre c82.sigs) (hg : T.sig 82 = some s82) (hC : CtAll Try.prog T.fns (presQ pre) c82.sigs) (hk : CpAll Try.prog c82.cps) (hi : ∀ xs ls, allHas (parIvs s82.params) xs → pre 82 xs ls → allHas iv82 xs)
    (h : ∀ (v0 : Int) (l0 l1 : List Int), allHas iv82 [v0] → allL (parLvs s82.params) [l0, l1] → pre 82 [v0] [l0, l1] → p82 T I M pre (fun ys _ => ys = T.app 82 [v0] [l0, l1]) v0 l0 l1) : CT Try.prog T.fns (presQ pre) 82 s82 :=
  T.ctg (F := ⟨c82, []⟩) (fuel := 250) vc82 Try.checked.mixed hs ht hg hC hk Try.func82 I M (fun xs ls h1 h2 h3 => ⟨hi xs ls h1 h3, h2⟩) fun xs ls hx hl hp => by
    match xs, ls, hx, hl, hp with
    | [v0], [l0, l1], hx, hl, hp => rw [q82]; exact h v0 l0 l1 hx hl hp
/-- loop.example/g01242/spec.l03At -/
def s81 : Sig := ⟨[.plsts [[.i8], [.i8]], .val false [.i .i64]], [(false, [.i .i8])], false⟩
noncomputable def c81 : Cfg := ⟨Try.prog, [], []⟩
def iv81 : List Iv := [⟨(-9223372036854775808), 9223372036854775807⟩]
def t81 : VC :=
 (.bind (.len (.var 0))
 (.ite (.lt (.var 0) (.var 1))
  (.need [(.b (.le (.lit 0) (.var 0))), (.b (.lt (.var 0) (.len (.var 0))))]
  (.need [(.b (.lt (.add (.lit 0) (.var 0)) (.len (.var 0))))]
  (.bind (.at (.var 0) (.add (.lit 0) (.var 0)))
  (.fin (.e (.var 2) .nil)))))
  (.need [(.b (.not (.eq (.len (.var 1)) (.lit 0)))), (.b (.le (.lit 0) (.tmod (.wrap .i64 (.sub (.var 0) (.var 1))) (.len (.var 1))))), (.b (.lt (.tmod (.wrap .i64 (.sub (.var 0) (.var 1))) (.len (.var 1))) (.len (.var 1)))), (.b (.lt (.add (.lit 0) (.tmod (.wrap .i64 (.sub (.var 0) (.var 1))) (.len (.var 1)))) (.len (.var 1))))]
  (.bind (.at (.var 1) (.add (.lit 0) (.tmod (.wrap .i64 (.sub (.var 0) (.var 1))) (.len (.var 1)))))
  (.bind (.at (.var 1) (.add (.lit 0) (.tmod (.wrap .i64 (.sub (.var 0) (.var 1))) (.len (.var 1)))))
  (.fin (.e (.var 3) .nil)))))))
theorem vc81 : vcOfI ⟨c81, []⟩ iv81 (parLvs s81.params) 250 Try.f81 s81 = t81 := by kernel_rfl
set_option linter.unusedVariables false in
def p81 (T : Tab) (I : Nat → Env → Env → Prop) (M : Nat → Env → Env → Nat) (pre : Nat → List Int → List (List Int) → Prop) (post : List Int → List (List Int) → Prop) (v0 : Int) (l0 l1 : List Int) : Prop :=
 ∀ v1 : Int, v1 = (List.length l0 : Int) →
 ((decide ((v0 : Int) < v1) = true →
  ((decide ((0 : Int) ≤ v0) = true ∧ decide ((v0 : Int) < (List.length l0 : Int)) = true) ∧ ((decide ((0 : Int) ≤ v0) = true ∧ decide ((v0 : Int) < (List.length l0 : Int)) = true) →
  ((decide (((0 + v0) : Int) < (List.length l0 : Int)) = true) ∧ ((decide (((0 + v0) : Int) < (List.length l0 : Int)) = true) →
  ∀ v2 : Int, v2 = (List.getD l0 (Int.toNat (0 + v0)) 0) →
  post [v2] []))))) ∧ (decide ((v0 : Int) < v1) = false →
  (((!decide (((List.length l1 : Int) : Int) = 0)) = true ∧ decide ((0 : Int) ≤ (Int.tmod (IntKind.wrap .i64 (v0 - v1)) (List.length l1 : Int))) = true ∧ decide (((Int.tmod (IntKind.wrap .i64 (v0 - v1)) (List.length l1 : Int)) : Int) < (List.length l1 : Int)) = true ∧ decide (((0 + (Int.tmod (IntKind.wrap .i64 (v0 - v1)) (List.length l1 : Int))) : Int) < (List.length l1 : Int)) = true) ∧ (((!decide (((List.length l1 : Int) : Int) = 0)) = true ∧ decide ((0 : Int) ≤ (Int.tmod (IntKind.wrap .i64 (v0 - v1)) (List.length l1 : Int))) = true ∧ decide (((Int.tmod (IntKind.wrap .i64 (v0 - v1)) (List.length l1 : Int)) : Int) < (List.length l1 : Int)) = true ∧ decide (((0 + (Int.tmod (IntKind.wrap .i64 (v0 - v1)) (List.length l1 : Int))) : Int) < (List.length l1 : Int)) = true) →
  ∀ v2 : Int, v2 = (List.getD l1 (Int.toNat (0 + (Int.tmod (IntKind.wrap .i64 (v0 - v1)) (List.length l1 : Int)))) 0) →
  ∀ v3 : Int, v3 = (List.getD l1 (Int.toNat (0 + (Int.tmod (IntKind.wrap .i64 (v0 - v1)) (List.length l1 : Int)))) 0) →
  post [v3] []))))
theorem q81 (T : Tab) (I : Nat → Env → Env → Prop) (M : Nat → Env → Env → Nat) (pre : Nat → List Int → List (List Int) → Prop) (post : List Int → List (List Int) → Prop) (v0 : Int) (l0 l1 : List Int) : t81.plain T (presG pre I M) post ⟨[v0], [l0, l1]⟩ = p81 T I M pre post v0 l0 l1 := by kernel_rfl
theorem k81 (T : Tab) (I : Nat → Env → Env → Prop) (M : Nat → Env → Env → Nat) (pre : Nat → List Int → List (List Int) → Prop) (hs : SubSig T c81.sigs) (ht : TotG pre c81.sigs) (hg : T.sig 81 = some s81) (hC : CtAll Try.prog T.fns (presQ pre) c81.sigs) (hk : CpAll Try.prog c81.cps) (hi : ∀ xs ls, allHas (parIvs s81.params) xs → pre 81 xs ls → allHas iv81 xs)
    (h : ∀ (v0 : Int) (l0 l1 : List Int), allHas iv81 [v0] → allL (parLvs s81.params) [l0, l1] → pre 81 [v0] [l0, l1] → p81 T I M pre (fun ys _ => ys = T.app 81 [v0] [l0, l1]) v0 l0 l1) : CT Try.prog T.fns (presQ pre) 81 s81 :=
  T.ctg (F := ⟨c81, []⟩) (fuel := 250) vc81 Try.checked.mixed hs ht hg hC hk Try.func81 I M (fun xs ls h1 h2 h3 => ⟨hi xs ls h1 h3, h2⟩) fun xs ls hx hl hp => by
    match xs, ls, hx, hl, hp with
    | [v0], [l0, l1], hx, hl, hp => rw [q81]; exact h v0 l0 l1 hx hl hp
/-- loop.example/g01242/impl.DigitAt -/
def s43 : Sig := ⟨[.lsts [[.i8], [.i8]], .val false [.i .i64]], [(false, [.i .i8]), (false, [.i .i64])], true⟩
noncomputable def c43 : Cfg := ⟨Try.prog, [(38, s38), (82, s82)], []⟩
def iv43 : List Iv := [⟨(-9223372036854775808), 9223372036854775807⟩]
def t43 : VC :=
 (.call 38 (.l (.var 0) (.l (.var 1) .nil)) 1
 (.ite (.not (.eq (.var 1) (.lit 1)))
  (.fin (.e (.lit 0) (.e (.lit 1) .nil)))
  (.ite (.le (.lit 0) (.var 0))
   (.ite (.lt (.lit 1000000000) (.var 0))
    (.fin (.e (.lit 0) (.e (.lit 2) .nil)))
    (.bind (.len (.var 0))
    (.ite (.le (.var 2) (.var 0))
     (.need [(.b (.not (.eq (.len (.var 1)) (.lit 0))))]
     (.bind (.wrap .i64 (.add (.var 2) (.tmod (.sub (.var 0) (.var 2)) (.len (.var 1)))))
     (.need [(.pre 82 (.l (.var 0) (.l (.var 1) (.e (.var 3) .nil))))]
     (.call 82 (.l (.var 0) (.l (.var 1) (.e (.var 3) .nil))) 1
     (.fin (.e (.var 4) (.e (.lit 0) .nil)))))))
     (.need [(.pre 82 (.l (.var 0) (.l (.var 1) (.e (.var 0) .nil))))]
     (.call 82 (.l (.var 0) (.l (.var 1) (.e (.var 0) .nil))) 1
     (.fin (.e (.var 3) (.e (.lit 0) .nil))))))))
   (.fin (.e (.lit 0) (.e (.lit 2) .nil))))))
theorem vc43 : vcOfI ⟨c43, []⟩ iv43 (parLvs s43.params) 250 Try.f43 s43 = t43 := by kernel_rfl
set_option linter.unusedVariables false in
def p43 (T : Tab) (I : Nat → Env → Env → Prop) (M : Nat → Env → Env → Nat) (pre : Nat → List Int → List (List Int) → Prop) (post : List Int → List (List Int) → Prop) (v0 : Int) (l0 l1 : List Int) : Prop :=
 ∀ v1 : Int, [v1] = T.outL 38 1 [] [l0, l1] →
 (((!decide ((v1 : Int) = 1)) = true →
  post [0, 1] []) ∧ ((!decide ((v1 : Int) = 1)) = false →
  ((decide ((0 : Int) ≤ v0) = true →
   ((decide ((1000000000 : Int) < v0) = true →
    post [0, 2] []) ∧ (decide ((1000000000 : Int) < v0) = false →
    ∀ v2 : Int, v2 = (List.length l0 : Int) →
    ((decide ((v2 : Int) ≤ v0) = true →
     (((!decide (((List.length l1 : Int) : Int) = 0)) = true) ∧ (((!decide (((List.length l1 : Int) : Int) = 0)) = true) →
     ∀ v3 : Int, v3 = (IntKind.wrap .i64 (v2 + (Int.tmod (v0 - v2) (List.length l1 : Int)))) →
     ((pre 82 [v3] [l0, l1]) ∧ ((pre 82 [v3] [l0, l1]) →
     ∀ v4 : Int, [v4] = T.outL 82 1 [v3] [l0, l1] →
     post [v4, 0] []))))) ∧ (decide ((v2 : Int) ≤ v0) = false →
     ((pre 82 [v0] [l0, l1]) ∧ ((pre 82 [v0] [l0, l1]) →
     ∀ v3 : Int, [v3] = T.outL 82 1 [v0] [l0, l1] →
     post [v3, 0] []))))))) ∧ (decide ((0 : Int) ≤ v0) = false →
   post [0, 2] []))))
theorem q43 (T : Tab) (I : Nat → Env → Env → Prop) (M : Nat → Env → Env → Nat) (pre : Nat → List Int → List (List Int) → Prop) (post : List Int → List (List Int) → Prop) (v0 : Int) (l0 l1 : List Int) : t43.plain T (presG pre I M) post ⟨[v0], [l0, l1]⟩ = p43 T I M pre post v0 l0 l1 := by kernel_rfl
theorem k43 (T : Tab) (I : Nat → Env → Env → Prop) (M : Nat → Env → Env → Nat) (pre : Nat → List Int → List (List Int) → Prop) (hs : SubSig T c43.sigs) (ht : TotG pre c43.sigs) (hg : T.sig 43 = some s43) (hC : CtAll Try.prog T.fns (presQ pre) c43.sigs) (hk : CpAll Try.prog c43.cps) (hi : ∀ xs ls, allHas (parIvs s43.params) xs → pre 43 xs ls → allHas iv43 xs)
    (h : ∀ (v0 : Int) (l0 l1 : List Int), allHas iv43 [v0] → allL (parLvs s43.params) [l0, l1] → pre 43 [v0] [l0, l1] → p43 T I M pre (fun ys _ => ys = T.app 43 [v0] [l0, l1]) v0 l0 l1) : CT Try.prog T.fns (presQ pre) 43 s43 :=
  T.ctg (F := ⟨c43, []⟩) (fuel := 250) vc43 Try.checked.mixed hs ht hg hC hk Try.func43 I M (fun xs ls h1 h2 h3 => ⟨hi xs ls h1 h3, h2⟩) fun xs ls hx hl hp => by
    match xs, ls, hx, hl, hp with
    | [v0], [l0, l1], hx, hl, hp => rw [q43]; exact h v0 l0 l1 hx hl hp
/-- loop.example/g01242/spec.DigitAt -/
def s42 : Sig := ⟨[.lsts [[.i8], [.i8]], .val false [.i .i64]], [(false, [.i .i8]), (false, [.i .i64])], true⟩
noncomputable def c42 : Cfg := ⟨Try.prog, [(76, s76), (59, s59), (81, s81)], []⟩
def iv42 : List Iv := [⟨(-9223372036854775808), 9223372036854775807⟩]
def t42 : VC :=
 (.call 76 (.l (.var 0) (.l (.var 1) .nil)) 1
 (.ite (.not (.eq (.var 1) (.lit 1)))
  (.fin (.e (.lit 0) (.e (.lit 1) .nil)))
  (.call 59 (.e (.var 0) (.e (.lit 0) (.e (.lit 1000000000) .nil))) 1
  (.ite (.not (.eq (.var 2) (.lit 1)))
   (.fin (.e (.lit 0) (.e (.lit 2) .nil)))
   (.need [(.pre 81 (.l (.var 0) (.l (.var 1) (.e (.var 0) .nil))))]
   (.call 81 (.l (.var 0) (.l (.var 1) (.e (.var 0) .nil))) 1
   (.fin (.e (.var 3) (.e (.lit 0) .nil)))))))))
theorem vc42 : vcOfI ⟨c42, []⟩ iv42 (parLvs s42.params) 250 Try.f42 s42 = t42 := by kernel_rfl
set_option linter.unusedVariables false in
def p42 (T : Tab) (I : Nat → Env → Env → Prop) (M : Nat → Env → Env → Nat) (pre : Nat → List Int → List (List Int) → Prop) (post : List Int → List (List Int) → Prop) (v0 : Int) (l0 l1 : List Int) : Prop :=
 ∀ v1 : Int, [v1] = T.outL 76 1 [] [l0, l1] →
 (((!decide ((v1 : Int) = 1)) = true →
  post [0, 1] []) ∧ ((!decide ((v1 : Int) = 1)) = false →
  ∀ v2 : Int, [v2] = T.out 59 1 [v0, 0, 1000000000] →
  (((!decide ((v2 : Int) = 1)) = true →
   post [0, 2] []) ∧ ((!decide ((v2 : Int) = 1)) = false →
   ((pre 81 [v0] [l0, l1]) ∧ ((pre 81 [v0] [l0, l1]) →
   ∀ v3 : Int, [v3] = T.outL 81 1 [v0] [l0, l1] →
   post [v3, 0] []))))))
theorem q42 (T : Tab) (I : Nat → Env → Env → Prop) (M : Nat → Env → Env → Nat) (pre : Nat → List Int → List (List Int) → Prop) (post : List Int → List (List Int) → Prop) (v0 : Int) (l0 l1 : List Int) : t42.plain T (presG pre I M) post ⟨[v0], [l0, l1]⟩ = p42 T I M pre post v0 l0 l1 := by kernel_rfl
theorem k42 (T : Tab) (I : Nat → Env → Env → Prop) (M : Nat → Env → Env → Nat) (pre : Nat → List Int → List (List Int) → Prop) (hs : SubSig T c42.sigs) (ht : TotG pre c42.sigs) (hg : T.sig 42 = some s42) (hC : CtAll Try.prog T.fns (presQ pre) c42.sigs) (hk : CpAll Try.prog c42.cps) (hi : ∀ xs ls, allHas (parIvs s42.params) xs → pre 42 xs ls → allHas iv42 xs)
    (h : ∀ (v0 : Int) (l0 l1 : List Int), allHas iv42 [v0] → allL (parLvs s42.params) [l0, l1] → pre 42 [v0] [l0, l1] → p42 T I M pre (fun ys _ => ys = T.app 42 [v0] [l0, l1]) v0 l0 l1) : CT Try.prog T.fns (presQ pre) 42 s42 :=
  T.ctg (F := ⟨c42, []⟩) (fuel := 250) vc42 Try.checked.mixed hs ht hg hC hk Try.func42 I M (fun xs ls h1 h2 h3 => ⟨hi xs ls h1 h3, h2⟩) fun xs ls hx hl hp => by
    match xs, ls, hx, hl, hp with
    | [v0], [l0, l1], hx, hl, hp => rw [q42]; exact h v0 l0 l1 hx hl hp
/-- loop.example/g01242/laws.FnExactDigitAt -/
def s12 : Sig := ⟨[.lsts [[.i8], [.i8]], .val false [.i .i64]], [(false, [.b])], true⟩
noncomputable def c12 : Cfg := ⟨Try.prog, [(35, s35), (42, s42), (43, s43), (39, s39)], [(37, s37, y37)]⟩
def iv12 : List Iv := [⟨(-9223372036854775808), 9223372036854775807⟩]
def t12 : VC :=
 (.call 35 (.l (.var 0) (.l (.var 1) (.e (.lit 1048576) .nil))) 1
 (.ite (.lt (.var 1) (.lit 0))
  (.fin (.e (.lit 1) .nil))
  (.need [(.b (.le (.len (.var 0)) (.lit 1099511627776))), (.b (.le (.len (.var 1)) (.lit 1099511627776)))]
  (.call 42 (.l (.var 0) (.l (.var 1) (.e (.var 0) .nil))) 2
  (.need [(.b (.le (.len (.var 0)) (.lit 1099511627776))), (.b (.le (.len (.var 1)) (.lit 1099511627776)))]
  (.call 43 (.l (.var 0) (.l (.var 1) (.e (.var 0) .nil))) 2
  (.ite (.eq (.var 4) (.var 2))
   (.ite (.not (.eq (.var 5) (.var 3)))
    (.fin (.e (.lit 0) .nil))
    (.need [(.b (.le (.len (.var 0)) (.lit 1099511627776))), (.b (.le (.len (.var 1)) (.lit 1099511627776)))]
    (.call 39 (.l (.var 0) (.l (.var 1) (.l (.var 0) (.l (.var 1) .nil)))) 1
    (.ite (.not (.eq (.var 6) (.lit 1)))
     (.fin (.e (.lit 0) .nil))
     (.fin (.e (.lit 1) .nil))))))
   (.fin (.e (.lit 0) .nil)))))))))
theorem vc12 : vcOfI ⟨c12, []⟩ iv12 (parLvs s12.params) 250 Try.f12 s12 = t12 := by kernel_rfl
set_option linter.unusedVariables false in
def p12 (T : Tab) (I : Nat → Env → Env → Prop) (M : Nat → Env → Env → Nat) (pre : Nat → List Int → List (List Int) → Prop) (post : List Int → List (List Int) → Prop) (v0 : Int) (l0 l1 : List Int) : Prop :=
 ∀ v1 : Int, [v1] = T.outL 35 1 [1048576] [l0, l1] →
 ((decide ((v1 : Int) < 0) = true →
  post [1] []) ∧ (decide ((v1 : Int) < 0) = false →
  ((decide (((List.length l0 : Int) : Int) ≤ 1099511627776) = true ∧ decide (((List.length l1 : Int) : Int) ≤ 1099511627776) = true) ∧ ((decide (((List.length l0 : Int) : Int) ≤ 1099511627776) = true ∧ decide (((List.length l1 : Int) : Int) ≤ 1099511627776) = true) →
  ∀ v2 v3 : Int, [v2, v3] = T.outL 42 2 [v0] [l0, l1] →
  ((decide (((List.length l0 : Int) : Int) ≤ 1099511627776) = true ∧ decide (((List.length l1 : Int) : Int) ≤ 1099511627776) = true) ∧ ((decide (((List.length l0 : Int) : Int) ≤ 1099511627776) = true ∧ decide (((List.length l1 : Int) : Int) ≤ 1099511627776) = true) →
  ∀ v4 v5 : Int, [v4, v5] = T.outL 43 2 [v0] [l0, l1] →
  ((decide ((v4 : Int) = v2) = true →
   (((!decide ((v5 : Int) = v3)) = true →
    post [0] []) ∧ ((!decide ((v5 : Int) = v3)) = false →
    ((decide (((List.length l0 : Int) : Int) ≤ 1099511627776) = true ∧ decide (((List.length l1 : Int) : Int) ≤ 1099511627776) = true) ∧ ((decide (((List.length l0 : Int) : Int) ≤ 1099511627776) = true ∧ decide (((List.length l1 : Int) : Int) ≤ 1099511627776) = true) →
    ∀ v6 : Int, [v6] = T.outL 39 1 [] [l0, l1, l0, l1] →
    (((!decide ((v6 : Int) = 1)) = true →
     post [0] []) ∧ ((!decide ((v6 : Int) = 1)) = false →
     post [1] []))))))) ∧ (decide ((v4 : Int) = v2) = false →
   post [0] []))))))))
theorem q12 (T : Tab) (I : Nat → Env → Env → Prop) (M : Nat → Env → Env → Nat) (pre : Nat → List Int → List (List Int) → Prop) (post : List Int → List (List Int) → Prop) (v0 : Int) (l0 l1 : List Int) : t12.plain T (presG pre I M) post ⟨[v0], [l0, l1]⟩ = p12 T I M pre post v0 l0 l1 := by kernel_rfl
theorem k12 (T : Tab) (I : Nat → Env → Env → Prop) (M : Nat → Env → Env → Nat) (pre : Nat → List Int → List (List Int) → Prop) (hs : SubSig T c12.sigs) (ht : TotG pre c12.sigs) (hg : T.sig 12 = some s12) (hC : CtAll Try.prog T.fns (presQ pre) c12.sigs) (hk : CpAll Try.prog c12.cps) (hi : ∀ xs ls, allHas (parIvs s12.params) xs → pre 12 xs ls → allHas iv12 xs)
    (h : ∀ (v0 : Int) (l0 l1 : List Int), allHas iv12 [v0] → allL (parLvs s12.params) [l0, l1] → pre 12 [v0] [l0, l1] → p12 T I M pre (fun ys _ => ys = T.app 12 [v0] [l0, l1]) v0 l0 l1) : CT Try.prog T.fns (presQ pre) 12 s12 :=
  T.ctg (F := ⟨c12, []⟩) (fuel := 250) vc12 Try.checked.mixed hs ht hg hC hk Try.func12 I M (fun xs ls h1 h2 h3 => ⟨hi xs ls h1 h3, h2⟩) fun xs ls hx hl hp => by
    match xs, ls, hx, hl, hp with
    | [v0], [l0, l1], hx, hl, hp => rw [q12]; exact h v0 l0 l1 hx hl hp
end Go.Proofs.Ytaknnjlkpepgaaa.Sx
