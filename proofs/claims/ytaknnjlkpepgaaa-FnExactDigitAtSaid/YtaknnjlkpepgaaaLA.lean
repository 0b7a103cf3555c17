import Derived.Test.YtaknnjlkpepgaaaSxT
import Derived.Test.YtaknnjlkpepgaaaChecked
import Derived.KernelRfl
namespace Go.Proofs.Ytaknnjlkpepgaaa.Sx
open Go Go.RowKit
/-- loop.example/g01242/laws.toInt8S -/
def s51 : PSh := .lst [.i8]
def y51 : List TypeId := [59]
noncomputable def c51 : Cfg := ⟨Try.prog, [], []⟩
def t51 : VC :=
 (.need [(.b (.le (.len (.var 0)) (.len (.var 0))))]
 (.loop 1 [(.lit 0)] [(.zeros (.mul (.len (.var 0)) (.lit 1)))] [⟨(-9223372036854775808), 9223372036854775807⟩] [(⟨(-128), 127⟩, 9223372036854775807)]
  (.ite (.lt (.var 0) (.len (.var 0)))
   (.need [(.b (.le (.lit 0) (.var 0))), (.b (.lt (.var 0) (.len (.var 0))))]
   (.need [(.b (.lt (.add (.lit 0) (.var 0)) (.len (.var 0))))]
   (.bind (.at (.var 0) (.add (.lit 0) (.var 0)))
   (.need [(.b (.le (.lit 0) (.var 0))), (.b (.lt (.var 0) (.len (.zeros (.mul (.len (.var 0)) (.lit 1)))))), (.b (.lt (.add (.lit 0) (.var 0)) (.len (.var 1))))]
   (.need [(.b (.lt (.add (.lit 0) (.var 0)) (.len (.var 1))))]
   (.bind (.wrap .i64 (.add (.var 0) (.lit 1)))
   (.again 1 0 1 [⟨(-9223372036854775808), 9223372036854775807⟩] [(.var 2)] [(.set (.var 1) (.add (.lit 0) (.var 0)) (.var 1))])))))))
   (.need [(.b (.eq (.len (.zeros (.mul (.len (.var 0)) (.lit 1)))) (.len (.var 1))))]
   (.fin (.l (.var 1) .nil))))))
theorem vc51 : vcCp ⟨c51, [(3, ⟨1, [4], [], [8, 9, 10, 11, 14, 15, 16, 17, 18, 19, 20, 12, 13], [⟨(-9223372036854775808), 9223372036854775807⟩], [1]⟩)]⟩ 250 Try.f51 s51 y51 = t51 := by kernel_rfl
set_option linter.unusedVariables false in
def p51 (T : Tab) (I : Nat → Env → Env → Prop) (M : Nat → Env → Env → Nat) (pre : Nat → List Int → List (List Int) → Prop) (post : List Int → List (List Int) → Prop) (l0 : List Int) : Prop :=
 ((decide (((List.length l0 : Int) : Int) ≤ (List.length l0 : Int)) = true) ∧ ((decide (((List.length l0 : Int) : Int) ≤ (List.length l0 : Int)) = true) →
 ((allHas [⟨(-9223372036854775808), 9223372036854775807⟩] [0] ∧ I 1 ⟨[], [l0]⟩ ⟨[0], [(List.replicate (Int.toNat ((List.length l0 : Int) * 1)) (0 : Int))]⟩) ∧ ∀ v0 : Int, ∀ l1 : List Int, allHas [⟨(-9223372036854775808), 9223372036854775807⟩] [v0] → allL [(⟨(-128), 127⟩, 9223372036854775807)] [l1] → I 1 ⟨[], [l0]⟩ ⟨[v0], [l1]⟩ →
  ((decide ((v0 : Int) < (List.length l0 : Int)) = true →
   ((decide ((0 : Int) ≤ v0) = true ∧ decide ((v0 : Int) < (List.length l0 : Int)) = true) ∧ ((decide ((0 : Int) ≤ v0) = true ∧ decide ((v0 : Int) < (List.length l0 : Int)) = true) →
   ((decide (((0 + v0) : Int) < (List.length l0 : Int)) = true) ∧ ((decide (((0 + v0) : Int) < (List.length l0 : Int)) = true) →
   ∀ v1 : Int, v1 = (List.getD l0 (Int.toNat (0 + v0)) 0) →
   ((decide ((0 : Int) ≤ v0) = true ∧ decide ((v0 : Int) < (List.length (List.replicate (Int.toNat ((List.length l0 : Int) * 1)) (0 : Int)) : Int)) = true ∧ decide (((0 + v0) : Int) < (List.length l1 : Int)) = true) ∧ ((decide ((0 : Int) ≤ v0) = true ∧ decide ((v0 : Int) < (List.length (List.replicate (Int.toNat ((List.length l0 : Int) * 1)) (0 : Int)) : Int)) = true ∧ decide (((0 + v0) : Int) < (List.length l1 : Int)) = true) →
   ((decide (((0 + v0) : Int) < (List.length l1 : Int)) = true) ∧ ((decide (((0 + v0) : Int) < (List.length l1 : Int)) = true) →
   ∀ v2 : Int, v2 = (IntKind.wrap .i64 (v0 + 1)) →
   (allHas [⟨(-9223372036854775808), 9223372036854775807⟩] [v2] ∧ I 1 ⟨[], [l0]⟩ ⟨[v2], [(List.set l1 (Int.toNat (0 + v0)) v1)]⟩ ∧ M 1 ⟨[], [l0]⟩ ⟨[v2], [(List.set l1 (Int.toNat (0 + v0)) v1)]⟩ < M 1 ⟨[], [l0]⟩ ⟨[v0], [l1]⟩)))))))))) ∧ (decide ((v0 : Int) < (List.length l0 : Int)) = false →
   ((decide (((List.length (List.replicate (Int.toNat ((List.length l0 : Int) * 1)) (0 : Int)) : Int) : Int) = (List.length l1 : Int)) = true) ∧ ((decide (((List.length (List.replicate (Int.toNat ((List.length l0 : Int) * 1)) (0 : Int)) : Int) : Int) = (List.length l1 : Int)) = true) →
   post [] [l1])))))))
theorem q51 (T : Tab) (I : Nat → Env → Env → Prop) (M : Nat → Env → Env → Nat) (pre : Nat → List Int → List (List Int) → Prop) (post : List Int → List (List Int) → Prop) (l0 : List Int) : t51.plain T (presG pre I M) post ⟨[], [l0]⟩ = p51 T I M pre post l0 := by kernel_rfl
theorem k51 (T : Tab) (I : Nat → Env → Env → Prop) (M : Nat → Env → Env → Nat) (pre : Nat → List Int → List (List Int) → Prop) (hs : SubSig T c51.sigs) (ht : TotG pre c51.sigs) (hC : CtAll Try.prog T.fns (presQ pre) c51.sigs) (hk : CpAll Try.prog c51.cps)
    (h : ∀ (l0 : List Int), allL (cpLvs s51) [l0] → p51 T I M pre (fun _ l => l = [l0]) l0) : CTC Try.prog 51 s51 y51 :=
  Tab.ctc (F := ⟨c51, [(3, ⟨1, [4], [], [8, 9, 10, 11, 14, 15, 16, 17, 18, 19, 20, 12, 13], [⟨(-9223372036854775808), 9223372036854775807⟩], [1]⟩)]⟩) (fuel := 250) vc51 Try.checked.mixed hs ht hC hk Try.func51 rfl I M fun ls hl => by
    match ls, hl with
    | [l0], hl => rw [q51]; exact h l0 hl
/-- loop.example/g01242/laws.toStream -/
def s37 : PSh := .lsts [[.i8], [.i8]]
def y37 : List TypeId := [59, 59]
noncomputable def c37 : Cfg := ⟨Try.prog, [], [(51, s51, y51)]⟩
def t37 : VC :=
 (.need [(.b (.eq (.len (.var 0)) (.len (.var 0)))), (.b (.eq (.len (.var 1)) (.len (.var 1))))]
 (.fin (.l (.var 0) (.l (.var 1) .nil))))
theorem vc37 : vcCp ⟨c37, []⟩ 250 Try.f37 s37 y37 = t37 := by kernel_rfl
set_option linter.unusedVariables false in
def p37 (T : Tab) (I : Nat → Env → Env → Prop) (M : Nat → Env → Env → Nat) (pre : Nat → List Int → List (List Int) → Prop) (post : List Int → List (List Int) → Prop) (l0 l1 : List Int) : Prop :=
 ((decide (((List.length l0 : Int) : Int) = (List.length l0 : Int)) = true ∧ decide (((List.length l1 : Int) : Int) = (List.length l1 : Int)) = true) ∧ ((decide (((List.length l0 : Int) : Int) = (List.length l0 : Int)) = true ∧ decide (((List.length l1 : Int) : Int) = (List.length l1 : Int)) = true) →
 post [] [l0, l1]))
theorem q37 (T : Tab) (I : Nat → Env → Env → Prop) (M : Nat → Env → Env → Nat) (pre : Nat → List Int → List (List Int) → Prop) (post : List Int → List (List Int) → Prop) (l0 l1 : List Int) : t37.plain T (presG pre I M) post ⟨[], [l0, l1]⟩ = p37 T I M pre post l0 l1 := by kernel_rfl
theorem k37 (T : Tab) (I : Nat → Env → Env → Prop) (M : Nat → Env → Env → Nat) (pre : Nat → List Int → List (List Int) → Prop) (hs : SubSig T c37.sigs) (ht : TotG pre c37.sigs) (hC : CtAll Try.prog T.fns (presQ pre) c37.sigs) (hk : CpAll Try.prog c37.cps)
    (h : ∀ (l0 l1 : List Int), allL (cpLvs s37) [l0, l1] → p37 T I M pre (fun _ l => l = [l0, l1]) l0 l1) : CTC Try.prog 37 s37 y37 :=
  Tab.ctc (F := ⟨c37, []⟩) (fuel := 250) vc37 Try.checked.mixed hs ht hC hk Try.func37 rfl I M fun ls hl => by
    match ls, hl with
    | [l0, l1], hl => rw [q37]; exact h l0 l1 hl
end Go.Proofs.Ytaknnjlkpepgaaa.Sx
