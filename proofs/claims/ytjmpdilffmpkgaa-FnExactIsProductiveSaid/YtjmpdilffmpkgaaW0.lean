/-
  How lists that come in as arguments read.
-/
import Derived.Test.YtjmpdilffmpkgaaH0
import Derived.ProofKit
import Derived.OpenShut
import Derived.ShutString
import Derived.ChangeOld
import Derived.ChangeSlices
import Derived.Below
namespace Go.Proofs.Ytjmpdilffmpkgaa.Sx
open Go Go.RowKit Go.WideShapes Go.ChangeShapes
set_option linter.unusedVariables false

section
variable {H : Type} {enc : TypeId × Value → H} {P : Program} {w : World} {r : Reach} {b0 base : Nat} {spare : Nat → Bool} {held : Bool}

/-- A slice of numbers. -/
theorem open_list {t e : TypeId} {k : IntKind} {fuel : Nat} {c : Value} {x : DataW H × List MemPlace} (ht : P.underlying t = some (.slice e)) (he : P.underlying e = some (.int k)) (hc : P.cellsOf e = 1)
    (hv : Cell.okWide P w r b0 t c) (h : DataW.trod enc P w base spare held fuel t [c] = some x) :
    ∃ l : List Int, IsL k w l c ∧ (∀ x ∈ l, (Lit.int k x).wf = true) ∧ l.length ≤ 9223372036854775807 := by
  rcases open_ints ht he hc h with ⟨h1, _⟩ | ⟨a, len, cap, zs, h1, hlc, hl, hm, hz, _, hcell, hwf⟩
  · have h1 : c = .slice none 0 0 := by simpa using h1
    exact ⟨[], .inl ⟨h1, rfl⟩, fun x hx => (by cases hx), by simp⟩
  · have h1 : c = .slice (some a) len cap := by simpa using h1
    subst h1
    have hs : a.spot = none := by
      unfold Cell.okWide at hv
      rw [ht] at hv
      simp only at hv
      unfold Go.Cell.ok at hv
      rw [ht] at hv
      simp only at hv
      exact hv.2.2.2.1
    obtain ⟨b, o, s⟩ := a
    simp only at hs
    subst hs
    have hlz : len ≤ zs.length := by rw [hz]; split <;> omega
    have hlen : (zs.take len).length = len := by rw [List.length_take]; omega
    have hget : ∀ (i : Nat) (x : Int), (zs.take len)[i]? = some x → i < len ∧ i < zs.length ∧ zs.getD i 0 = x := fun i x hx => by
      rw [List.getElem?_take] at hx
      split at hx
      · rename_i hi
        exact ⟨hi, by have := (List.getElem?_eq_some_iff.1 hx).1; omega, by rw [List.getD_eq_getElem?_getD, hx]; rfl⟩
      · cases hx
    have hcap : len ≤ cap := by omega
    refine ⟨zs.take len, .inr ⟨b, o, cap, by rw [hlen], by rw [hlen]; exact hcap, fun i x hx => ?_⟩, fun x hx => hwf x (List.mem_of_mem_take hx), ?_⟩
    · obtain ⟨i1, i2, i3⟩ := hget i x hx
      have := hcell i i2
      rw [i3] at this
      have ea : (Addr.mk b o none).add i = ⟨b, o + i, none⟩ := by
        unfold Addr.add
        split
        · rename_i e0; rw [e0]; rfl
        · rfl
      rw [← ea]; exact this
    · rw [hlen]
      have : cap ≤ 2 ^ 63 - 1 := hm
      omega

/-- A struct of two slices of numbers. -/
theorem open_lists2 {t e : TypeId} {k : IntKind} {f0 f1 : Field} {v : Value} {d : DataW H} {p : List MemPlace} (hs : P.underlying t = some (.struct #[f0, f1])) (hct : P.cellTypes P.depth t = some [f0.type, f1.type])
    (h0 : P.underlying f0.type = some (.slice e)) (h1 : P.underlying f1.type = some (.slice e)) (he : P.underlying e = some (.int k)) (ce : P.cellsOf e = 1)
    (o0 : f0.offset = 0) (o1 : f1.offset = 1) (ct : P.cellsOf t = 2) (c0 : P.cellsOf f0.type = 1) (c1 : P.cellsOf f1.type = 1)
    (hv : Value.okWide P w r b0 t v) (h : DataW.Trod enc P w base spare held t v d p) :
    ∃ (l0 l1 : List Int) (v0 v1 : Value), v = .agg #[v0, v1] ∧ IsL k w l0 v0 ∧ IsL k w l1 v1 ∧ l0.length ≤ 9223372036854775807 ∧ l1.length ≤ 9223372036854775807 := by
  simp only [Value.okWide, hs] at hv
  obtain ⟨cs, rfl, hsz, ts, hts, _, hrow⟩ := hv
  rw [hct] at hts
  cases hts
  obtain ⟨fuel, hf⟩ := h
  obtain ⟨y0, y1, n, _, hl, t0, t1⟩ := trod_struct2 hs hf
  rw [ct] at hsz
  obtain ⟨x0, x1, hcs⟩ : ∃ x0 x1, cs.toList = [x0, x1] := by
    match hq : cs.toList, (show cs.toList.length = 2 by simpa using hsz) with
    | [a, b], _ => exact ⟨a, b, rfl⟩
  have hcs' : cs = #[x0, x1] := by rw [← Array.toArray_toList (xs := cs), hcs]
  subst hcs'
  rw [o0, c0] at t0
  rw [o1, c1] at t1
  have r0 : Cell.okWide P w r b0 f0.type x0 := by
    obtain ⟨u, hu, hok⟩ := hrow 0 x0 rfl
    cases hu; exact hok
  have r1 : Cell.okWide P w r b0 f1.type x1 := by
    obtain ⟨u, hu, hok⟩ := hrow 1 x1 rfl
    cases hu; exact hok
  obtain ⟨l0, a1, a2, a3⟩ := open_list h0 he ce r0 (by simpa [Value.cells] using t0)
  obtain ⟨l1, b1, b2, b3⟩ := open_list h1 he ce r1 (by simpa [Value.cells] using t1)
  exact ⟨l0, l1, x0, x1, rfl, a1, b1, a3, b3⟩
end
end Go.Proofs.Ytjmpdilffmpkgaa.Sx
