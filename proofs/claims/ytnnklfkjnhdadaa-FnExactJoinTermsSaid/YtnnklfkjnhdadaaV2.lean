/-
  When a node is valid: a loop over an iterator, walked by hand.
-/
import Derived.Test.YtnnklfkjnhdadaaV1
namespace Go.Proofs.Ytnnklfkjnhdadaa.Sx
open Go Go.RowKit Go.Shelf
set_option linter.unusedVariables false
set_option linter.unusedSimpArgs false
attribute [local go_sem] Oper.semAt_some

def hdC : Code → Code
  | .seq a _ => a
  | c => c
def tlC : Code → Code
  | .seq _ b => b
  | c => c
noncomputable def bdC : Code := match Try.f16.body with
  | some c => c
  | none => .skip
/-- What is known ahead of the loop: the node, the place and the result lie in blocks of their own. -/
def stA : St := ⟨[.any, .any, .one (.ptr 0 0), .one (.ptr 1 0), .one (.ptr 2 0)] ++ List.replicate 47 .any,
  [some ⟨varCells 0 [.i .i8, .i .i16, .i .i16, .i .i64, .i .i64], true, 36, none⟩, some ⟨varCells 5 [.i .i64], true, 3, none⟩, some ⟨[.bool (.lit false)], true, 4, none⟩]⟩
def tPre : VC :=
 (.ite (.le (.lit 1) (.var 0))
  (.ite (.le (.var 0) (.lit 12))
   (.call 23 (.e (.var 0) (.e (.var 1) (.e (.var 2) (.e (.var 3) (.e (.var 4) .nil))))) 5
   (.ite (.not (.and (.eq (.var 0) (.var 6)) (.and (.eq (.var 1) (.var 7)) (.and (.eq (.var 2) (.var 8)) (.and (.eq (.var 3) (.var 9)) (.eq (.var 4) (.var 10)))))))
    (.fin (.e (.lit 1) .nil))
    (.fin (.e (.lit 0) .nil))))
   (.fin (.e (.lit 1) .nil)))
  (.fin (.e (.lit 1) .nil)))
theorem vPre : ((exec ⟨c16, []⟩ (249 + 1) (.seq (hdC bdC) (hdC (tlC bdC))) ⟨iv16, parLvs s16.params, c16.sigs.map fun p => (p.1, resKds p.2), []⟩
    ⟨parSVs 0 0 0 s16.params ++ List.replicate (52 - (parSVs 0 0 0 s16.params).length) .undef, parRegs 0 0 0 s16.params⟩).vc (finC stA stA)) = tPre := by kernel_rfl
theorem hbody : Try.f16.body = some (.seq (hdC bdC) (.seq (hdC (tlC bdC)) (tlC (tlC bdC)))) := by kernel_rfl
theorem qPre (post : List Int → List (List Int) → Prop) (v0 v1 v2 v3 v4 v5 : Int) : tPre.plain tbN (presG prN noI noM) post ⟨[v0, v1, v2, v3, v4, v5], []⟩ =
 ((decide ((1 : Int) ≤ v0) = true →
  ((decide ((v0 : Int) ≤ 12) = true →
   ∀ v6 v7 v8 v9 v10 : Int, [v6, v7, v8, v9, v10] = tbN.out 23 5 [v0, v1, v2, v3, v4] →
   (((!(decide ((v0 : Int) = v6) && (decide ((v1 : Int) = v7) && (decide ((v2 : Int) = v8) && (decide ((v3 : Int) = v9) && decide ((v4 : Int) = v10)))))) = true →
    post [1] []) ∧ ((!(decide ((v0 : Int) = v6) && (decide ((v1 : Int) = v7) && (decide ((v2 : Int) = v8) && (decide ((v3 : Int) = v9) && decide ((v4 : Int) = v10)))))) = false →
    post [0] []))) ∧ (decide ((v0 : Int) ≤ 12) = false →
   post [1] []))) ∧ (decide ((1 : Int) ≤ v0) = false →
  post [1] [])) := by kernel_rfl

abbrev headOk (k a b p q : Int) : Prop := (1 ≤ k ∧ k ≤ 12) ∧ bareF [k, a, b, p, q] = [k, a, b, p, q]
theorem bare_has {k a b p q : Int} (hx : allHas iv23 [k, a, b, p, q]) : allHas iv23 (bareF [k, a, b, p, q]) := by
  obtain ⟨h0, h1, h2, h3, h4, _⟩ := hx
  have z16 : (⟨-32768, 32767⟩ : Iv).has 0 := ⟨by decide, by decide⟩
  have z64 : (⟨-9223372036854775808, 9223372036854775807⟩ : Iv).has 0 := ⟨by decide, by decide⟩
  show allHas iv23 (if k = 1 then [k, 0, 0, p, q] else if isTwo k then [k, a, b, 0, 0] else if isOne k then [k, a, 0, 0, 0] else [k, 0, 0, 0, 0])
  by_cases e1 : k = 1
  · rw [if_pos e1]; exact ⟨h0, z16, z16, h3, h4, trivial⟩
  rw [if_neg e1]
  by_cases e2 : isTwo k
  · rw [if_pos e2]; exact ⟨h0, h1, h2, z64, z64, trivial⟩
  rw [if_neg e2]
  by_cases e3 : isOne k
  · rw [if_pos e3]; exact ⟨h0, h1, z16, z64, z64, trivial⟩
  · rw [if_neg e3]; exact ⟨h0, z16, z16, z64, z64, trivial⟩
theorem pre_ok {k a b p q i : Int} (hx : allHas iv23 [k, a, b, p, q]) :
    tPre.plain tbN (presG prN noI noM) (fun ys _ => ∀ y, ys = [y] → (y = 0 → headOk k a b p q) ∧ (y = 1 → ¬ headOk k a b p q)) ⟨[k, a, b, p, q, i], []⟩ := by
  rw [qPre]
  simp only [decide_eq_true_eq, decide_eq_false_iff_not, Bool.not_eq_true', Bool.not_eq_false', List.cons.injEq, and_true, forall_eq', forall_eq]
  refine ⟨fun h1 => ⟨fun h2 v6 v7 v8 v9 v10 hv => ?_, fun h2 => ⟨fun h => absurd h (by decide), fun _ h => h2 h.1.2⟩⟩, fun h1 => ⟨fun h => absurd h (by decide), fun _ h => h1 h.1.1⟩⟩
  have hv := outN (T := tbN) (g := 23) (s := s23) (F := bareF) rfl rfl rfl rfl hv (bare_has hx)
  have e : (bareF [k, a, b, p, q] = [k, a, b, p, q]) ↔ (decide (k = v6) && (decide (a = v7) && (decide (b = v8) && (decide (p = v9) && decide (q = v10))))) = true := by
    rw [← hv]
    simp only [List.cons.injEq, and_true, Bool.and_eq_true, decide_eq_true_eq]
    exact ⟨fun ⟨h1, h2, h3, h4, h5⟩ => ⟨h1.symm, h2.symm, h3.symm, h4.symm, h5.symm⟩, fun ⟨h1, h2, h3, h4, h5⟩ => ⟨h1.symm, h2.symm, h3.symm, h4.symm, h5.symm⟩⟩
  refine ⟨fun h => ⟨fun h' => absurd h' (by decide), fun _ hh => ?_⟩, fun h => ⟨fun _ => ⟨⟨h1, h2⟩, e.2 h⟩, fun h' => absurd h' (by decide)⟩⟩
  rw [e.1 hh.2] at h; cases h

theorem arr52 (t : Array Value) (h : t.size = 52) : ∃ f : Nat → Value, (∀ i, f i = t.getD i undef) ∧ t = #[f 0, f 1, f 2, f 3, f 4, f 5, f 6, f 7, f 8, f 9, f 10, f 11, f 12, f 13, f 14, f 15, f 16, f 17, f 18, f 19, f 20, f 21, f 22, f 23, f 24, f 25, f 26, f 27, f 28, f 29, f 30, f 31, f 32, f 33, f 34, f 35, f 36, f 37, f 38, f 39, f 40, f 41, f 42, f 43, f 44, f 45, f 46, f 47, f 48, f 49, f 50, f 51] := by
  refine ⟨fun i => t.getD i undef, fun _ => rfl, ?_⟩
  have e : t = ((List.range 52).map fun i => t.getD i undef).toArray := by
    apply Array.ext
    · simp [h]
    · intro i h1 h2
      simp [h1]
  exact e
theorem behind_cells {d : Dn} {a : Act} {w w' : World} {S1 : St} (h : Behind ⟨Try.prog, w, none⟩ d S1 a w') {id : Nat} {cs : List Cell} {ty : TypeId} (hr : getH S1.heap id = some ⟨cs, true, ty, none⟩) :
    (d.α id).2 = 0 ∧ w.heap.size ≤ (d.α id).1 ∧ w'.heap[(d.α id).1]? = some (.cells (cs.map (Cell.den d)).toArray ty (0, 0)) := by
  have := h.reg id _ hr
  have : RegIs0 ⟨Try.prog, w, none⟩ d id ⟨cs, true, ty, none⟩ w' := this
  unfold RegIs0 at this
  rw [if_pos rfl] at this
  exact ⟨this.1, this.2.1.elim (fun h => h) (fun h => (noPin _ _ _ h).elim), this.2.2⟩
end Go.Proofs.Ytnnklfkjnhdadaa.Sx
