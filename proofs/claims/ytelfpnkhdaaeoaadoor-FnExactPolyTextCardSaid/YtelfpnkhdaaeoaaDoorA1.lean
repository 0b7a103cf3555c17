import Derived.Test.YtelfpnkhdaaeoaaDoorSxX
import Derived.Test.YtelfpnkhdaaeoaaDoorSxZ
import Derived.Test.YtelfpnkhdaaeoaaDoorChecked
import Derived.KernelRfl
namespace Go.Proofs.YtelfpnkhdaaeoaaDoor.Sx
open Go Go.RowKit
/-- loop.example/g01242/laws.toInt64S -/
def s5 : PSh := .lst [.i64]
def y5 : List TypeId := [2]
noncomputable def c5 : Cfg := ⟨Tryd.prog, [], [], [], [], [], [], [], 0, []⟩
def t5 : VC :=
 (.need [(.b (.le (.len (.var 0)) (.len (.var 0))))]
 (.loop 1 [(.lit 0)] [(.zeros (.mul (.len (.var 0)) (.lit 1)))] [⟨(-9223372036854775808), 9223372036854775807⟩] [(⟨(-9223372036854775808), 9223372036854775807⟩, 9223372036854775807)]
  (.ite (.lt (.var 0) (.len (.var 0)))
   (.need [(.b (.eq (.len (.zeros (.mul (.len (.var 0)) (.lit 1)))) (.len (.var 1))))]
   (.need [(.b (.le (.lit 0) (.var 0))), (.b (.lt (.var 0) (.len (.var 0))))]
   (.need [(.b (.lt (.add (.lit 0) (.var 0)) (.len (.var 0))))]
   (.bind (.at (.var 0) (.add (.lit 0) (.var 0)))
   (.need [(.b (.le (.lit 0) (.var 0))), (.b (.lt (.var 0) (.len (.var 1))))]
   (.need [(.b (.lt (.add (.lit 0) (.var 0)) (.len (.var 1))))]
   (.bind (.wrap .i64 (.add (.var 0) (.lit 1)))
   (.again 1 0 1 [⟨(-9223372036854775808), 9223372036854775807⟩] [(.var 2)] [(.set (.var 1) (.add (.lit 0) (.var 0)) (.var 1))]))))))))
   (.need [(.b (.eq (.len (.zeros (.mul (.len (.var 0)) (.lit 1)))) (.len (.var 1))))]
   (.need [(.b (.eq (.len (.var 1)) (.len (.var 1))))]
   (.fin (.l (.var 1) .nil)))))))
theorem vc5 : vcCp ⟨c5, [(3, ⟨1, [4], [], [8, 9, 10, 11, 14, 15, 16, 17, 18, 19, 20, 12, 13], [⟨(-9223372036854775808), 9223372036854775807⟩], [1], []⟩)]⟩ 250 Tryd.f5 s5 y5 = t5 := by kernel_rfl
set_option linter.unusedVariables false in
def p5 (T : Tab) (I : Nat → Env → Env → Prop) (M : Nat → Env → Env → Nat) (pre : Nat → List Int → List (List Int) → Prop) (post : List Int → List (List Int) → Prop) (l0 : List Int) : Prop :=
 ((decide (((List.length l0 : Int) : Int) ≤ (List.length l0 : Int)) = true) ∧ ((decide (((List.length l0 : Int) : Int) ≤ (List.length l0 : Int)) = true) →
 ((allHas [⟨(-9223372036854775808), 9223372036854775807⟩] [0] ∧ I 1 ⟨[], [l0]⟩ ⟨[0], [(List.replicate (Int.toNat ((List.length l0 : Int) * 1)) (0 : Int))]⟩) ∧ ∀ v0 : Int, ∀ l1 : List Int, allHas [⟨(-9223372036854775808), 9223372036854775807⟩] [v0] → allL [(⟨(-9223372036854775808), 9223372036854775807⟩, 9223372036854775807)] [l1] → I 1 ⟨[], [l0]⟩ ⟨[v0], [l1]⟩ →
  ((decide ((v0 : Int) < (List.length l0 : Int)) = true →
   ((decide (((List.length (List.replicate (Int.toNat ((List.length l0 : Int) * 1)) (0 : Int)) : Int) : Int) = (List.length l1 : Int)) = true) ∧ ((decide (((List.length (List.replicate (Int.toNat ((List.length l0 : Int) * 1)) (0 : Int)) : Int) : Int) = (List.length l1 : Int)) = true) →
   ((decide ((0 : Int) ≤ v0) = true ∧ decide ((v0 : Int) < (List.length l0 : Int)) = true) ∧ ((decide ((0 : Int) ≤ v0) = true ∧ decide ((v0 : Int) < (List.length l0 : Int)) = true) →
   ((decide (((0 + v0) : Int) < (List.length l0 : Int)) = true) ∧ ((decide (((0 + v0) : Int) < (List.length l0 : Int)) = true) →
   ∀ v1 : Int, v1 = (List.getD l0 (Int.toNat (0 + v0)) 0) →
   ((decide ((0 : Int) ≤ v0) = true ∧ decide ((v0 : Int) < (List.length l1 : Int)) = true) ∧ ((decide ((0 : Int) ≤ v0) = true ∧ decide ((v0 : Int) < (List.length l1 : Int)) = true) →
   ((decide (((0 + v0) : Int) < (List.length l1 : Int)) = true) ∧ ((decide (((0 + v0) : Int) < (List.length l1 : Int)) = true) →
   ∀ v2 : Int, v2 = (IntKind.wrap .i64 (v0 + 1)) →
   (allHas [⟨(-9223372036854775808), 9223372036854775807⟩] [v2] ∧ I 1 ⟨[], [l0]⟩ ⟨[v2], [(List.set l1 (Int.toNat (0 + v0)) v1)]⟩ ∧ M 1 ⟨[], [l0]⟩ ⟨[v2], [(List.set l1 (Int.toNat (0 + v0)) v1)]⟩ < M 1 ⟨[], [l0]⟩ ⟨[v0], [l1]⟩)))))))))))) ∧ (decide ((v0 : Int) < (List.length l0 : Int)) = false →
   ((decide (((List.length (List.replicate (Int.toNat ((List.length l0 : Int) * 1)) (0 : Int)) : Int) : Int) = (List.length l1 : Int)) = true) ∧ ((decide (((List.length (List.replicate (Int.toNat ((List.length l0 : Int) * 1)) (0 : Int)) : Int) : Int) = (List.length l1 : Int)) = true) →
   ((decide (((List.length l1 : Int) : Int) = (List.length l1 : Int)) = true) ∧ ((decide (((List.length l1 : Int) : Int) = (List.length l1 : Int)) = true) →
   post [] [l1])))))))))
theorem q5 (T : Tab) (I : Nat → Env → Env → Prop) (M : Nat → Env → Env → Nat) (pre : Nat → List Int → List (List Int) → Prop) (post : List Int → List (List Int) → Prop) (l0 : List Int) : t5.plain T (presG pre I M) post ⟨[], [l0]⟩ = p5 T I M pre post l0 := by kernel_rfl
theorem k5 (T : Tab) (I : Nat → Env → Env → Prop) (M : Nat → Env → Env → Nat) (pre : Nat → List Int → List (List Int) → Prop) (hs : SubSig T c5.sigs) (ht : TotG pre c5.sigs) (hC : CtAll Tryd.prog T.fns (presQ pre) c5.pfs c5.pty c5.cls c5.sigs) (hk : CpAll Tryd.prog c5.cps)
    (h : ∀ (l0 : List Int), allL (cpLvs s5) [l0] → (∀ i ks, s5.lss[i]? = some ks → Kinds ks (List.getD [l0] i [])) → p5 T I M pre (fun _ l => l = [l0]) l0) : CTC Tryd.prog 5 s5 y5 :=
  Tab.ctc (F := ⟨c5, [(3, ⟨1, [4], [], [8, 9, 10, 11, 14, 15, 16, 17, 18, 19, 20, 12, 13], [⟨(-9223372036854775808), 9223372036854775807⟩], [1], []⟩)]⟩) (fuel := 250) vc5 Tryd.checked.mixed hs ht hC hk Tryd.func5 rfl I M fun ls hl hkk => by
    match ls, hl, hkk with
    | [l0], hl, hkk => rw [q5]; exact h l0 hl hkk
end Go.Proofs.YtelfpnkhdaaeoaaDoor.Sx
