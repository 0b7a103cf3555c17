import Derived.Test.YtjpcmjgogdemoaaSxY
import Derived.Test.YtjpcmjgogdemoaaChecked
import Derived.KernelRfl
namespace Go.Proofs.Ytjpcmjgogdemoaa.Sx
open Go Go.RowKit
/-- loop.example/g01242/laws.toInt8S -/
def s18 : PSh := .lst [.i8]
def y18 : List TypeId := [74]
noncomputable def c18 : Cfg := ⟨Try.prog, [], [], [], []⟩
def t18 : VC :=
 (.need [(.b (.le (.len (.var 0)) (.len (.var 0))))]
 (.loop 1 [(.lit 0)] [(.zeros (.mul (.len (.var 0)) (.lit 1)))] [⟨(-9223372036854775808), 9223372036854775807⟩] [(⟨(-128), 127⟩, 9223372036854775807)]
  (.ite (.lt (.var 0) (.len (.var 0)))
   (.need [(.b (.le (.lit 0) (.var 0))), (.b (.lt (.var 0) (.len (.var 0))))]
   (.need [(.b (.lt (.add (.lit 0) (.var 0)) (.len (.var 0))))]
   (.bind (.at (.var 0) (.add (.lit 0) (.var 0)))
   (.need [(.b (.le (.lit 0) (.var 0))), (.b (.lt (.var 0) (.len (.zeros (.mul (.len (.var 0)) (.lit 1)))))), (.b (.lt (.add (.lit 0) (.var 0)) (.len (.var 1))))]
   (.need [(.b (.lt (.add (.lit 0) (.var 0)) (.len (.var 1))))]
   (.bind (.wrap .i64 (.add (.var 0) (.lit 1)))
   (.again 1 0 1 [⟨(-9223372036854775808), 9223372036854775807⟩] [(.var 2)] [(.set (.var 1) (.add (.lit 0) (.var 0)) (.var 1))])))))))
   (.need [(.b (.eq (.len (.zeros (.mul (.len (.var 0)) (.lit 1)))) (.len (.var 1))))]
   (.fin (.l (.var 1) .nil))))))
theorem vc18 : vcCp ⟨c18, [(3, ⟨1, [4], [], [8, 9, 10, 11, 14, 15, 16, 17, 18, 19, 20, 12, 13], [⟨(-9223372036854775808), 9223372036854775807⟩], [1], []⟩)]⟩ 250 Try.f18 s18 y18 = t18 := by kernel_rfl
set_option linter.unusedVariables false in
def p18 (T : Tab) (I : Nat → Env → Env → Prop) (M : Nat → Env → Env → Nat) (pre : Nat → List Int → List (List Int) → Prop) (post : List Int → List (List Int) → Prop) (l0 : List Int) : Prop :=
 ((decide (((List.length l0 : Int) : Int) ≤ (List.length l0 : Int)) = true) ∧ ((decide (((List.length l0 : Int) : Int) ≤ (List.length l0 : Int)) = true) →
 ((allHas [⟨(-9223372036854775808), 9223372036854775807⟩] [0] ∧ I 1 ⟨[], [l0]⟩ ⟨[0], [(List.replicate (Int.toNat ((List.length l0 : Int) * 1)) (0 : Int))]⟩) ∧ ∀ v0 : Int, ∀ l1 : List Int, allHas [⟨(-9223372036854775808), 9223372036854775807⟩] [v0] → allL [(⟨(-128), 127⟩, 9223372036854775807)] [l1] → I 1 ⟨[], [l0]⟩ ⟨[v0], [l1]⟩ →
  ((decide ((v0 : Int) < (List.length l0 : Int)) = true →
   ((decide ((0 : Int) ≤ v0) = true ∧ decide ((v0 : Int) < (List.length l0 : Int)) = true) ∧ ((decide ((0 : Int) ≤ v0) = true ∧ decide ((v0 : Int) < (List.length l0 : Int)) = true) →
   ((decide (((0 + v0) : Int) < (List.length l0 : Int)) = true) ∧ ((decide (((0 + v0) : Int) < (List.length l0 : Int)) = true) →
   ∀ v1 : Int, v1 = (List.getD l0 (Int.toNat (0 + v0)) 0) →
   ((decide ((0 : Int) ≤ v0) = true ∧ decide ((v0 : Int) < (List.length (List.replicate (Int.toNat ((List.length l0 : Int) * 1)) (0 : Int)) : Int)) = true ∧ decide (((0 + v0) : Int) < (List.length l1 : Int)) = true) ∧ ((decide ((0 : Int) ≤ v0) = true ∧ decide ((v0 : Int) < (List.length (List.replicate (Int.toNat ((List.length l0 : Int) * 1)) (0 : Int)) : Int)) = true ∧ decide (((0 + v0) : Int) < (List.length l1 : Int)) = true) →
   ((decide (((0 + v0) : Int) < (List.length l1 : Int)) = true) ∧ ((decide (((0 + v0) : Int) < (List.length l1 : Int)) = true) →
   ∀ v2 : Int, v2 = (IntKind.wrap .i64 (v0 + 1)) →
   (allHas [⟨(-9223372036854775808), 9223372036854775807⟩] [v2] ∧ I 1 ⟨[], [l0]⟩ ⟨[v2], [(List.set l1 (Int.toNat (0 + v0)) v1)]⟩ ∧ M 1 ⟨[], [l0]⟩ ⟨[v2], [(List.set l1 (Int.toNat (0 + v0)) v1)]⟩ < M 1 ⟨[], [l0]⟩ ⟨[v0], [l1]⟩)))))))))) ∧ (decide ((v0 : Int) < (List.length l0 : Int)) = false →
   ((decide (((List.length (List.replicate (Int.toNat ((List.length l0 : Int) * 1)) (0 : Int)) : Int) : Int) = (List.length l1 : Int)) = true) ∧ ((decide (((List.length (List.replicate (Int.toNat ((List.length l0 : Int) * 1)) (0 : Int)) : Int) : Int) = (List.length l1 : Int)) = true) →
   post [] [l1])))))))
theorem q18 (T : Tab) (I : Nat → Env → Env → Prop) (M : Nat → Env → Env → Nat) (pre : Nat → List Int → List (List Int) → Prop) (post : List Int → List (List Int) → Prop) (l0 : List Int) : t18.plain T (presG pre I M) post ⟨[], [l0]⟩ = p18 T I M pre post l0 := by kernel_rfl
theorem k18 (T : Tab) (I : Nat → Env → Env → Prop) (M : Nat → Env → Env → Nat) (pre : Nat → List Int → List (List Int) → Prop) (hs : SubSig T c18.sigs) (ht : TotG pre c18.sigs) (hC : CtAll Try.prog T.fns (presQ pre) c18.sigs) (hk : CpAll Try.prog c18.cps)
    (h : ∀ (l0 : List Int), allL (cpLvs s18) [l0] → (∀ i ks, s18.lss[i]? = some ks → Kinds ks (List.getD [l0] i [])) → p18 T I M pre (fun _ l => l = [l0]) l0) : CTC Try.prog 18 s18 y18 :=
  Tab.ctc (F := ⟨c18, [(3, ⟨1, [4], [], [8, 9, 10, 11, 14, 15, 16, 17, 18, 19, 20, 12, 13], [⟨(-9223372036854775808), 9223372036854775807⟩], [1], []⟩)]⟩) (fuel := 250) vc18 Try.checked.mixed hs ht hC hk Try.func18 rfl I M fun ls hl hkk => by
    match ls, hl, hkk with
    | [l0], hl, hkk => rw [q18]; exact h l0 hl hkk
/-- loop.example/g01242/laws.toInt64S -/
def s30 : PSh := .lst [.i64]
def y30 : List TypeId := [2]
noncomputable def c30 : Cfg := ⟨Try.prog, [], [], [], []⟩
def t30 : VC :=
 (.need [(.b (.le (.len (.var 0)) (.len (.var 0))))]
 (.loop 1 [(.lit 0)] [(.zeros (.mul (.len (.var 0)) (.lit 1)))] [⟨(-9223372036854775808), 9223372036854775807⟩] [(⟨(-9223372036854775808), 9223372036854775807⟩, 9223372036854775807)]
  (.ite (.lt (.var 0) (.len (.var 0)))
   (.need [(.b (.le (.lit 0) (.var 0))), (.b (.lt (.var 0) (.len (.var 0))))]
   (.need [(.b (.lt (.add (.lit 0) (.var 0)) (.len (.var 0))))]
   (.bind (.at (.var 0) (.add (.lit 0) (.var 0)))
   (.need [(.b (.le (.lit 0) (.var 0))), (.b (.lt (.var 0) (.len (.zeros (.mul (.len (.var 0)) (.lit 1)))))), (.b (.lt (.add (.lit 0) (.var 0)) (.len (.var 1))))]
   (.need [(.b (.lt (.add (.lit 0) (.var 0)) (.len (.var 1))))]
   (.bind (.wrap .i64 (.add (.var 0) (.lit 1)))
   (.again 1 0 1 [⟨(-9223372036854775808), 9223372036854775807⟩] [(.var 2)] [(.set (.var 1) (.add (.lit 0) (.var 0)) (.var 1))])))))))
   (.need [(.b (.eq (.len (.zeros (.mul (.len (.var 0)) (.lit 1)))) (.len (.var 1))))]
   (.fin (.l (.var 1) .nil))))))
theorem vc30 : vcCp ⟨c30, [(3, ⟨1, [4], [], [8, 9, 10, 11, 14, 15, 16, 17, 18, 19, 20, 12, 13], [⟨(-9223372036854775808), 9223372036854775807⟩], [1], []⟩)]⟩ 250 Try.f30 s30 y30 = t30 := by kernel_rfl
set_option linter.unusedVariables false in
def p30 (T : Tab) (I : Nat → Env → Env → Prop) (M : Nat → Env → Env → Nat) (pre : Nat → List Int → List (List Int) → Prop) (post : List Int → List (List Int) → Prop) (l0 : List Int) : Prop :=
 ((decide (((List.length l0 : Int) : Int) ≤ (List.length l0 : Int)) = true) ∧ ((decide (((List.length l0 : Int) : Int) ≤ (List.length l0 : Int)) = true) →
 ((allHas [⟨(-9223372036854775808), 9223372036854775807⟩] [0] ∧ I 1 ⟨[], [l0]⟩ ⟨[0], [(List.replicate (Int.toNat ((List.length l0 : Int) * 1)) (0 : Int))]⟩) ∧ ∀ v0 : Int, ∀ l1 : List Int, allHas [⟨(-9223372036854775808), 9223372036854775807⟩] [v0] → allL [(⟨(-9223372036854775808), 9223372036854775807⟩, 9223372036854775807)] [l1] → I 1 ⟨[], [l0]⟩ ⟨[v0], [l1]⟩ →
  ((decide ((v0 : Int) < (List.length l0 : Int)) = true →
   ((decide ((0 : Int) ≤ v0) = true ∧ decide ((v0 : Int) < (List.length l0 : Int)) = true) ∧ ((decide ((0 : Int) ≤ v0) = true ∧ decide ((v0 : Int) < (List.length l0 : Int)) = true) →
   ((decide (((0 + v0) : Int) < (List.length l0 : Int)) = true) ∧ ((decide (((0 + v0) : Int) < (List.length l0 : Int)) = true) →
   ∀ v1 : Int, v1 = (List.getD l0 (Int.toNat (0 + v0)) 0) →
   ((decide ((0 : Int) ≤ v0) = true ∧ decide ((v0 : Int) < (List.length (List.replicate (Int.toNat ((List.length l0 : Int) * 1)) (0 : Int)) : Int)) = true ∧ decide (((0 + v0) : Int) < (List.length l1 : Int)) = true) ∧ ((decide ((0 : Int) ≤ v0) = true ∧ decide ((v0 : Int) < (List.length (List.replicate (Int.toNat ((List.length l0 : Int) * 1)) (0 : Int)) : Int)) = true ∧ decide (((0 + v0) : Int) < (List.length l1 : Int)) = true) →
   ((decide (((0 + v0) : Int) < (List.length l1 : Int)) = true) ∧ ((decide (((0 + v0) : Int) < (List.length l1 : Int)) = true) →
   ∀ v2 : Int, v2 = (IntKind.wrap .i64 (v0 + 1)) →
   (allHas [⟨(-9223372036854775808), 9223372036854775807⟩] [v2] ∧ I 1 ⟨[], [l0]⟩ ⟨[v2], [(List.set l1 (Int.toNat (0 + v0)) v1)]⟩ ∧ M 1 ⟨[], [l0]⟩ ⟨[v2], [(List.set l1 (Int.toNat (0 + v0)) v1)]⟩ < M 1 ⟨[], [l0]⟩ ⟨[v0], [l1]⟩)))))))))) ∧ (decide ((v0 : Int) < (List.length l0 : Int)) = false →
   ((decide (((List.length (List.replicate (Int.toNat ((List.length l0 : Int) * 1)) (0 : Int)) : Int) : Int) = (List.length l1 : Int)) = true) ∧ ((decide (((List.length (List.replicate (Int.toNat ((List.length l0 : Int) * 1)) (0 : Int)) : Int) : Int) = (List.length l1 : Int)) = true) →
   post [] [l1])))))))
theorem q30 (T : Tab) (I : Nat → Env → Env → Prop) (M : Nat → Env → Env → Nat) (pre : Nat → List Int → List (List Int) → Prop) (post : List Int → List (List Int) → Prop) (l0 : List Int) : t30.plain T (presG pre I M) post ⟨[], [l0]⟩ = p30 T I M pre post l0 := by kernel_rfl
theorem k30 (T : Tab) (I : Nat → Env → Env → Prop) (M : Nat → Env → Env → Nat) (pre : Nat → List Int → List (List Int) → Prop) (hs : SubSig T c30.sigs) (ht : TotG pre c30.sigs) (hC : CtAll Try.prog T.fns (presQ pre) c30.sigs) (hk : CpAll Try.prog c30.cps)
    (h : ∀ (l0 : List Int), allL (cpLvs s30) [l0] → (∀ i ks, s30.lss[i]? = some ks → Kinds ks (List.getD [l0] i [])) → p30 T I M pre (fun _ l => l = [l0]) l0) : CTC Try.prog 30 s30 y30 :=
  Tab.ctc (F := ⟨c30, [(3, ⟨1, [4], [], [8, 9, 10, 11, 14, 15, 16, 17, 18, 19, 20, 12, 13], [⟨(-9223372036854775808), 9223372036854775807⟩], [1], []⟩)]⟩) (fuel := 250) vc30 Try.checked.mixed hs ht hC hk Try.func30 rfl I M fun ls hl hkk => by
    match ls, hl, hkk with
    | [l0], hl, hkk => rw [q30]; exact h l0 hl hkk
/-- loop.example/g01242/laws.toStream -/
def s24 : PSh := .lsts [[.i8], [.i8]]
def y24 : List TypeId := [74, 74]
noncomputable def c24 : Cfg := ⟨Try.prog, [], [(18, s18, y18)], [], []⟩
def t24 : VC :=
 (.need [(.b (.eq (.len (.var 0)) (.len (.var 0)))), (.b (.eq (.len (.var 1)) (.len (.var 1))))]
 (.fin (.l (.var 0) (.l (.var 1) .nil))))
theorem vc24 : vcCp ⟨c24, []⟩ 250 Try.f24 s24 y24 = t24 := by kernel_rfl
set_option linter.unusedVariables false in
def p24 (T : Tab) (I : Nat → Env → Env → Prop) (M : Nat → Env → Env → Nat) (pre : Nat → List Int → List (List Int) → Prop) (post : List Int → List (List Int) → Prop) (l0 l1 : List Int) : Prop :=
 ((decide (((List.length l0 : Int) : Int) = (List.length l0 : Int)) = true ∧ decide (((List.length l1 : Int) : Int) = (List.length l1 : Int)) = true) ∧ ((decide (((List.length l0 : Int) : Int) = (List.length l0 : Int)) = true ∧ decide (((List.length l1 : Int) : Int) = (List.length l1 : Int)) = true) →
 post [] [l0, l1]))
theorem q24 (T : Tab) (I : Nat → Env → Env → Prop) (M : Nat → Env → Env → Nat) (pre : Nat → List Int → List (List Int) → Prop) (post : List Int → List (List Int) → Prop) (l0 l1 : List Int) : t24.plain T (presG pre I M) post ⟨[], [l0, l1]⟩ = p24 T I M pre post l0 l1 := by kernel_rfl
theorem k24 (T : Tab) (I : Nat → Env → Env → Prop) (M : Nat → Env → Env → Nat) (pre : Nat → List Int → List (List Int) → Prop) (hs : SubSig T c24.sigs) (ht : TotG pre c24.sigs) (hC : CtAll Try.prog T.fns (presQ pre) c24.sigs) (hk : CpAll Try.prog c24.cps)
    (h : ∀ (l0 l1 : List Int), allL (cpLvs s24) [l0, l1] → (∀ i ks, s24.lss[i]? = some ks → Kinds ks (List.getD [l0, l1] i [])) → p24 T I M pre (fun _ l => l = [l0, l1]) l0 l1) : CTC Try.prog 24 s24 y24 :=
  Tab.ctc (F := ⟨c24, []⟩) (fuel := 250) vc24 Try.checked.mixed hs ht hC hk Try.func24 rfl I M fun ls hl hkk => by
    match ls, hl, hkk with
    | [l0, l1], hl, hkk => rw [q24]; exact h l0 l1 hl hkk
end Go.Proofs.Ytjpcmjgogdemoaa.Sx
