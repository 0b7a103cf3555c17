import Derived.Test.YtfmbbioibdmhjaaSxX
import Derived.Test.YtfmbbioibdmhjaaSxZ
import Derived.Test.YtfmbbioibdmhjaaD0
import Derived.Test.YtfmbbioibdmhjaaB1
import Derived.Test.YtfmbbioibdmhjaaChecked
import Derived.KernelRfl
namespace Go.Proofs.Ytfmbbioibdmhjaa.Sx
open Go Go.RowKit
/-- loop.example/g01242/laws.FnExactStreamText -/
def s3 : Sig := ⟨[.lsts [[.i8], [.i8]]], [(false, [.b])], true⟩
noncomputable def c3 : Cfg := ⟨Try.prog, [(4, s4), (8, s8)], [(6, s6, y6)], [], [], [(5, s5), (7, s7)], [], [], 0, []⟩
def iv3 : List Iv := []
def t3 : VC :=
 (.call 4 (.l (.var 0) (.l (.var 1) (.e (.lit 1048576) .nil))) 1
 (.ite (.lt (.var 0) (.lit 0))
  (.fin (.e (.lit 1) .nil))
  (.need [(.b (.le (.len (.var 0)) (.lit 1099511627776))), (.b (.le (.len (.var 1)) (.lit 1099511627776)))]
  (.calll 5 (.l (.var 0) (.l (.var 1) .nil)) [] [(⟨0, 255⟩, 9223372036854775807)]
  (.need [(.b (.le (.len (.var 0)) (.lit 1099511627776))), (.b (.le (.len (.var 1)) (.lit 1099511627776)))]
  (.calll 7 (.l (.var 0) (.l (.var 1) .nil)) [] [(⟨0, 255⟩, 9223372036854775807)]
  (.ite (.not (.leq (.var 3) (.var 2)))
   (.fin (.e (.lit 0) .nil))
   (.need [(.b (.le (.len (.var 0)) (.lit 1099511627776))), (.b (.le (.len (.var 1)) (.lit 1099511627776)))]
   (.call 8 (.l (.var 0) (.l (.var 1) (.l (.var 0) (.l (.var 1) .nil)))) 1
   (.ite (.not (.eq (.var 1) (.lit 1)))
    (.fin (.e (.lit 0) .nil))
    (.fin (.e (.lit 1) .nil))))))))))))
theorem vc3 : vcOfI ⟨c3, []⟩ iv3 (parLvs s3.params) 250 Try.f3 s3 = t3 := by kernel_rfl
set_option linter.unusedVariables false in
def p3 (T : Tab) (I : Nat → Env → Env → Prop) (M : Nat → Env → Env → Nat) (pre : Nat → List Int → List (List Int) → Prop) (post : List Int → List (List Int) → Prop) (l0 l1 : List Int) : Prop :=
 ∀ v0 : Int, [v0] = T.outL 4 1 [1048576] [l0, l1] →
 ((decide ((v0 : Int) < 0) = true →
  post [1] []) ∧ (decide ((v0 : Int) < 0) = false →
  ((decide (((List.length l0 : Int) : Int) ≤ 1099511627776) = true ∧ decide (((List.length l1 : Int) : Int) ≤ 1099511627776) = true) ∧ ((decide (((List.length l0 : Int) : Int) ≤ 1099511627776) = true ∧ decide (((List.length l1 : Int) : Int) ≤ 1099511627776) = true) →
  ∀ l2 : List Int, allHas [] [] → allL [(⟨0, 255⟩, 9223372036854775807)] [l2] → ([], [l2]) = T.fns 5 [] [l0, l1] →
  ((decide (((List.length l0 : Int) : Int) ≤ 1099511627776) = true ∧ decide (((List.length l1 : Int) : Int) ≤ 1099511627776) = true) ∧ ((decide (((List.length l0 : Int) : Int) ≤ 1099511627776) = true ∧ decide (((List.length l1 : Int) : Int) ≤ 1099511627776) = true) →
  ∀ l3 : List Int, allHas [] [] → allL [(⟨0, 255⟩, 9223372036854775807)] [l3] → ([], [l3]) = T.fns 7 [] [l0, l1] →
  (((!decide ((l3 : List Int) = l2)) = true →
   post [0] []) ∧ ((!decide ((l3 : List Int) = l2)) = false →
   ((decide (((List.length l0 : Int) : Int) ≤ 1099511627776) = true ∧ decide (((List.length l1 : Int) : Int) ≤ 1099511627776) = true) ∧ ((decide (((List.length l0 : Int) : Int) ≤ 1099511627776) = true ∧ decide (((List.length l1 : Int) : Int) ≤ 1099511627776) = true) →
   ∀ v1 : Int, [v1] = T.outL 8 1 [] [l0, l1, l0, l1] →
   (((!decide ((v1 : Int) = 1)) = true →
    post [0] []) ∧ ((!decide ((v1 : Int) = 1)) = false →
    post [1] []))))))))))))
theorem q3 (T : Tab) (I : Nat → Env → Env → Prop) (M : Nat → Env → Env → Nat) (pre : Nat → List Int → List (List Int) → Prop) (post : List Int → List (List Int) → Prop) (l0 l1 : List Int) : t3.plain T (presG pre I M) post ⟨[], [l0, l1]⟩ = p3 T I M pre post l0 l1 := by kernel_rfl
theorem k3 (T : Tab) (I : Nat → Env → Env → Prop) (M : Nat → Env → Env → Nat) (pre : Nat → List Int → List (List Int) → Prop) (hs : SubSig T c3.sigs) (ht : TotG pre c3.sigs) (hg : T.sig 3 = some s3) (hC : CtAll Try.prog T.fns (presQ pre) c3.pfs c3.pty c3.cls c3.sigs) (hk : CpAll Try.prog c3.cps) (hsf : SfAll Try.prog T.fns (presQ pre) c3.sfs) (hi : ∀ xs ls, allHas (parIvs s3.params) xs → pre 3 xs ls → allHas iv3 xs)
    (h : ∀ (l0 l1 : List Int), allHas iv3 [] → allL (parLvs s3.params) [l0, l1] → pre 3 [] [l0, l1] → p3 T I M pre (fun ys _ => ys = T.app 3 [] [l0, l1]) l0 l1) : CT Try.prog T.fns (presQ pre) 3 s3 :=
  T.ctg (hsf := hsf) (F := ⟨c3, []⟩) (fuel := 250) vc3 Try.checked.mixed hs ht hg hC hk Try.func3 I M (fun xs ls h1 h2 h3 => ⟨hi xs ls h1 h3, h2⟩) fun xs ls hx hl hp => by
    match xs, ls, hx, hl, hp with
    | [], [l0, l1], hx, hl, hp => rw [q3]; exact h l0 l1 hx hl hp
end Go.Proofs.Ytfmbbioibdmhjaa.Sx
