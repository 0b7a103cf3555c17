import Derived.Test.YtfmbbioibdmhjaaSxX
import Derived.Test.YtfmbbioibdmhjaaSxZ
import Derived.Test.YtfmbbioibdmhjaaChecked
import Derived.KernelRfl
namespace Go.Proofs.Ytfmbbioibdmhjaa.Sx
open Go Go.RowKit
/-- loop.example/g01242/laws.toInt8S -/
def s12 : PSh := .lst [.i8]
def y12 : List TypeId := [41]
noncomputable def c12 : Cfg := ⟨Try.prog, [], [], [], [], [], [], [], 0, []⟩
def t12 : VC :=
 (.need [(.b (.le (.len (.var 0)) (.len (.var 0))))]
 (.loop 1 [(.lit 0)] [(.zeros (.mul (.len (.var 0)) (.lit 1)))] [⟨(-9223372036854775808), 9223372036854775807⟩] [(⟨(-128), 127⟩, 9223372036854775807)]
  (.ite (.lt (.var 0) (.len (.var 0)))
   (.need [(.b (.eq (.len (.zeros (.mul (.len (.var 0)) (.lit 1)))) (.len (.var 1))))]
   (.need [(.b (.le (.lit 0) (.var 0))), (.b (.lt (.var 0) (.len (.var 0))))]
   (.need [(.b (.lt (.add (.lit 0) (.var 0)) (.len (.var 0))))]
   (.bind (.at (.var 0) (.add (.lit 0) (.var 0)))
   (.need [(.b (.le (.lit 0) (.var 0))), (.b (.lt (.var 0) (.len (.var 1))))]
   (.need [(.b (.lt (.add (.lit 0) (.var 0)) (.len (.var 1))))]
   (.bind (.wrap .i64 (.add (.var 0) (.lit 1)))
   (.again 1 0 1 [⟨(-9223372036854775808), 9223372036854775807⟩] [(.var 2)] [(.set (.var 1) (.add (.lit 0) (.var 0)) (.var 1))]))))))))
   (.need [(.b (.eq (.len (.zeros (.mul (.len (.var 0)) (.lit 1)))) (.len (.var 1))))]
   (.need [(.b (.eq (.len (.var 1)) (.len (.var 1))))]
   (.fin (.l (.var 1) .nil)))))))
theorem vc12 : vcCp ⟨c12, [(3, ⟨1, [4], [], [8, 9, 10, 11, 14, 15, 16, 17, 18, 19, 20, 12, 13], [⟨(-9223372036854775808), 9223372036854775807⟩], [1], []⟩)]⟩ 250 Try.f12 s12 y12 = t12 := by kernel_rfl
set_option linter.unusedVariables false in
def p12 (T : Tab) (I : Nat → Env → Env → Prop) (M : Nat → Env → Env → Nat) (pre : Nat → List Int → List (List Int) → Prop) (post : List Int → List (List Int) → Prop) (l0 : List Int) : Prop :=
 ((decide (((List.length l0 : Int) : Int) ≤ (List.length l0 : Int)) = true) ∧ ((decide (((List.length l0 : Int) : Int) ≤ (List.length l0 : Int)) = true) →
 ((allHas [⟨(-9223372036854775808), 9223372036854775807⟩] [0] ∧ I 1 ⟨[], [l0]⟩ ⟨[0], [(List.replicate (Int.toNat ((List.length l0 : Int) * 1)) (0 : Int))]⟩) ∧ ∀ v0 : Int, ∀ l1 : List Int, allHas [⟨(-9223372036854775808), 9223372036854775807⟩] [v0] → allL [(⟨(-128), 127⟩, 9223372036854775807)] [l1] → I 1 ⟨[], [l0]⟩ ⟨[v0], [l1]⟩ →
  ((decide ((v0 : Int) < (List.length l0 : Int)) = true →
   ((decide (((List.length (List.replicate (Int.toNat ((List.length l0 : Int) * 1)) (0 : Int)) : Int) : Int) = (List.length l1 : Int)) = true) ∧ ((decide (((List.length (List.replicate (Int.toNat ((List.length l0 : Int) * 1)) (0 : Int)) : Int) : Int) = (List.length l1 : Int)) = true) →
   ((decide ((0 : Int) ≤ v0) = true ∧ decide ((v0 : Int) < (List.length l0 : Int)) = true) ∧ ((decide ((0 : Int) ≤ v0) = true ∧ decide ((v0 : Int) < (List.length l0 : Int)) = true) →
   ((decide (((0 + v0) : Int) < (List.length l0 : Int)) = true) ∧ ((decide (((0 + v0) : Int) < (List.length l0 : Int)) = true) →
   ∀ v1 : Int, v1 = (List.getD l0 (Int.toNat (0 + v0)) 0) →
   ((decide ((0 : Int) ≤ v0) = true ∧ decide ((v0 : Int) < (List.length l1 : Int)) = true) ∧ ((decide ((0 : Int) ≤ v0) = true ∧ decide ((v0 : Int) < (List.length l1 : Int)) = true) →
   ((decide (((0 + v0) : Int) < (List.length l1 : Int)) = true) ∧ ((decide (((0 + v0) : Int) < (List.length l1 : Int)) = true) →
   ∀ v2 : Int, v2 = (IntKind.wrap .i64 (v0 + 1)) →
   (allHas [⟨(-9223372036854775808), 9223372036854775807⟩] [v2] ∧ I 1 ⟨[], [l0]⟩ ⟨[v2], [(List.set l1 (Int.toNat (0 + v0)) v1)]⟩ ∧ M 1 ⟨[], [l0]⟩ ⟨[v2], [(List.set l1 (Int.toNat (0 + v0)) v1)]⟩ < M 1 ⟨[], [l0]⟩ ⟨[v0], [l1]⟩)))))))))))) ∧ (decide ((v0 : Int) < (List.length l0 : Int)) = false →
   ((decide (((List.length (List.replicate (Int.toNat ((List.length l0 : Int) * 1)) (0 : Int)) : Int) : Int) = (List.length l1 : Int)) = true) ∧ ((decide (((List.length (List.replicate (Int.toNat ((List.length l0 : Int) * 1)) (0 : Int)) : Int) : Int) = (List.length l1 : Int)) = true) →
   ((decide (((List.length l1 : Int) : Int) = (List.length l1 : Int)) = true) ∧ ((decide (((List.length l1 : Int) : Int) = (List.length l1 : Int)) = true) →
   post [] [l1])))))))))
theorem q12 (T : Tab) (I : Nat → Env → Env → Prop) (M : Nat → Env → Env → Nat) (pre : Nat → List Int → List (List Int) → Prop) (post : List Int → List (List Int) → Prop) (l0 : List Int) : t12.plain T (presG pre I M) post ⟨[], [l0]⟩ = p12 T I M pre post l0 := by kernel_rfl
theorem k12 (T : Tab) (I : Nat → Env → Env → Prop) (M : Nat → Env → Env → Nat) (pre : Nat → List Int → List (List Int) → Prop) (hs : SubSig T c12.sigs) (ht : TotG pre c12.sigs) (hC : CtAll Try.prog T.fns (presQ pre) c12.pfs c12.pty c12.cls c12.sigs) (hk : CpAll Try.prog c12.cps)
    (h : ∀ (l0 : List Int), allL (cpLvs s12) [l0] → (∀ i ks, s12.lss[i]? = some ks → Kinds ks (List.getD [l0] i [])) → p12 T I M pre (fun _ l => l = [l0]) l0) : CTC Try.prog 12 s12 y12 :=
  Tab.ctc (F := ⟨c12, [(3, ⟨1, [4], [], [8, 9, 10, 11, 14, 15, 16, 17, 18, 19, 20, 12, 13], [⟨(-9223372036854775808), 9223372036854775807⟩], [1], []⟩)]⟩) (fuel := 250) vc12 Try.checked.mixed hs ht hC hk Try.func12 rfl I M fun ls hl hkk => by
    match ls, hl, hkk with
    | [l0], hl, hkk => rw [q12]; exact h l0 hl hkk
/-- loop.example/g01242/laws.toStream -/
def s6 : PSh := .lsts [[.i8], [.i8]]
def y6 : List TypeId := [41, 41]
noncomputable def c6 : Cfg := ⟨Try.prog, [], [(12, s12, y12)], [], [], [], [], [], 0, []⟩
def t6 : VC :=
 (.need [(.b (.eq (.len (.var 0)) (.len (.var 0)))), (.b (.eq (.len (.var 1)) (.len (.var 1))))]
 (.fin (.l (.var 0) (.l (.var 1) .nil))))
theorem vc6 : vcCp ⟨c6, []⟩ 250 Try.f6 s6 y6 = t6 := by kernel_rfl
set_option linter.unusedVariables false in
def p6 (T : Tab) (I : Nat → Env → Env → Prop) (M : Nat → Env → Env → Nat) (pre : Nat → List Int → List (List Int) → Prop) (post : List Int → List (List Int) → Prop) (l0 l1 : List Int) : Prop :=
 ((decide (((List.length l0 : Int) : Int) = (List.length l0 : Int)) = true ∧ decide (((List.length l1 : Int) : Int) = (List.length l1 : Int)) = true) ∧ ((decide (((List.length l0 : Int) : Int) = (List.length l0 : Int)) = true ∧ decide (((List.length l1 : Int) : Int) = (List.length l1 : Int)) = true) →
 post [] [l0, l1]))
theorem q6 (T : Tab) (I : Nat → Env → Env → Prop) (M : Nat → Env → Env → Nat) (pre : Nat → List Int → List (List Int) → Prop) (post : List Int → List (List Int) → Prop) (l0 l1 : List Int) : t6.plain T (presG pre I M) post ⟨[], [l0, l1]⟩ = p6 T I M pre post l0 l1 := by kernel_rfl
theorem k6 (T : Tab) (I : Nat → Env → Env → Prop) (M : Nat → Env → Env → Nat) (pre : Nat → List Int → List (List Int) → Prop) (hs : SubSig T c6.sigs) (ht : TotG pre c6.sigs) (hC : CtAll Try.prog T.fns (presQ pre) c6.pfs c6.pty c6.cls c6.sigs) (hk : CpAll Try.prog c6.cps)
    (h : ∀ (l0 l1 : List Int), allL (cpLvs s6) [l0, l1] → (∀ i ks, s6.lss[i]? = some ks → Kinds ks (List.getD [l0, l1] i [])) → p6 T I M pre (fun _ l => l = [l0, l1]) l0 l1) : CTC Try.prog 6 s6 y6 :=
  Tab.ctc (F := ⟨c6, []⟩) (fuel := 250) vc6 Try.checked.mixed hs ht hC hk Try.func6 rfl I M fun ls hl hkk => by
    match ls, hl, hkk with
    | [l0, l1], hl, hkk => rw [q6]; exact h l0 l1 hl hkk
end Go.Proofs.Ytfmbbioibdmhjaa.Sx
