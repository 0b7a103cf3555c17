/-
  How a tree that comes in as an argument reads.
-/
import Derived.Test.YtjmpdilffmpkgaaTG
import Derived.Test.YtjmpdilffmpkgaaW0
import Derived.ProofKit
import Derived.OpenShut
import Derived.ShutString
import Derived.ChangeOld
import Derived.ChangeSlices
import Derived.ChangeArms
import Derived.Below
namespace Go.Proofs.Ytjmpdilffmpkgaa.Sx
open Go Go.RowKit Go.WideShapes Go.ChangeShapes
set_option linter.unusedVariables false

theorem pickF {Q : Nat → Fk → Prop} : ∀ (n : Nat), (∀ i, i < n → ∃ L, Q i L) → ∃ ls : List Fk, ls.length = n ∧ ∀ i L, ls[i]? = some L → Q i L
  | 0, _ => ⟨[], rfl, fun i L h => by simp at h⟩
  | n + 1, h => by
    obtain ⟨ls, g1, g2⟩ := pickF n (fun i hi => h i (by omega))
    obtain ⟨L, hL⟩ := h n (by omega)
    refine ⟨ls ++ [L], by simp [g1], fun i M hM => ?_⟩
    by_cases hi : i < n
    · rw [List.getElem?_append_left (by omega)] at hM
      exact g2 i M hM
    · rw [List.getElem?_append_right (by omega), g1] at hM
      by_cases hin : i = n
      · subst hin
        simp at hM
        rw [← hM]; exact hL
      · rw [List.getElem?_eq_none (by simp; omega)] at hM
        cases hM
/-- Cells of a row of nodes, found node by node. -/
theorem IsF.mk {w : World} {T : List Fk} {b o c : Nat} (hc : T.length ≤ c) (h : ∀ i f, T[i]? = some f → ∀ r u, f.cells[r]? = some u → w.cell? ⟨b, o + i * 5 + r, none⟩ = some u) : IsF w T (.slice (some ⟨b, o, none⟩) T.length c) := by
  refine .inr ⟨b, o, c, rfl, hc, fun p u hu => ?_⟩
  have hp : p < T.length * 5 := by
    have := (List.getElem?_eq_some_iff.1 hu).1
    rwa [fkC_len] at this
  have hi : p / 5 < T.length := by omega
  have hg := fkAt_get hi
  have h1 := fkC_at hg (show p % 5 < 5 by omega)
  rw [show p / 5 * 5 + p % 5 = p by omega, hu] at h1
  have := h _ _ hg _ _ h1.symm
  rwa [show o + p / 5 * 5 + p % 5 = o + p by omega] at this
section
variable {H : Type} {enc : TypeId × Value → H} {P : Program} {w : World} {r : Reach} {b0 base : Nat} {spare : Nat → Bool} {held : Bool} {t : TypeId} {v : Value} {d : DataW H} {p : List MemPlace}
theorem wf_i16 {n : Int} (h : (Lit.int .i16 n).wf = true) : -32768 ≤ n ∧ n ≤ 32767 := by
  unfold Lit.wf at h
  simp [IntKind.min, IntKind.max, IntKind.bits, IntKind.signed] at h
  omega
theorem open_forks {e g : TypeId} {f0 f1 f2 : Field} {fuel : Nat} {x : DataW H × List MemPlace} (ht : P.underlying t = some (.slice e)) (he : P.underlying e = some (.struct #[f0, f1, f2])) (hc : P.cellsOf e = 5)
    (u0 : P.underlying f0.type = some (.int .i8)) (u1 : P.underlying f1.type = some (.int .i8)) (u2 : P.underlying f2.type = some (.array 3 g)) (ug : P.underlying g = some (.int .i16)) (cg : P.cellsOf g = 1)
    (o0 : f0.offset = 0) (o1 : f1.offset = 1) (o2 : f2.offset = 2) (c0 : P.cellsOf f0.type = 1) (c1 : P.cellsOf f1.type = 1) (c2 : P.cellsOf f2.type = 3)
    (hv : Cell.okWide P w r b0 t v) (hf : DataW.trod enc P w base spare held fuel t [v] = some x) :
    ∃ T : List Fk, IsF w T v ∧ Wid T ∧ T.length ≤ 9223372036854775807 := by
  have hk : Go.Cell.ok P w r b0 t v := by
    have := hv
    unfold Cell.okWide at this
    rw [ht] at this
    exact this
  rcases DataW.trod_slice ht hf with ⟨h1, _⟩ | ⟨a, len, cap, elems, rest, n, _, h1, _, _, hl, hm, hlen, hel, _, _⟩
  · have h1 : v = .slice none 0 0 := by simpa using h1
    subst h1
    exact ⟨[], .inl ⟨rfl, rfl⟩, fun L hL => (by cases hL), by simp⟩
  · have h1 : v = .slice (some a) len cap := by simpa using h1
    subst h1
    have hs : a.spot = none := by
      unfold Go.Cell.ok at hk
      rw [ht] at hk
      simp only at hk
      exact hk.2.2.2.1
    obtain ⟨b, o, s⟩ := a
    simp only at hs
    subst hs
    have ea : ∀ o i, (Addr.mk b o none).add i = ⟨b, o + i, none⟩ := fun o i => by
      unfold Addr.add
      split
      · rename_i e0; rw [e0]; rfl
      · rfl
    have row : ∀ i, i < len → ∃ f : Fk, (∀ r u, f.cells[r]? = some u → w.cell? ⟨b, o + i * 5 + r, none⟩ = some u) ∧ (-32768 ≤ f.n0 ∧ f.n0 ≤ 32767) ∧ (-32768 ≤ f.n1 ∧ f.n1 ≤ 32767) ∧ (-32768 ≤ f.n2 ∧ f.n2 ≤ 32767) := fun i hi => by
      have hb := hel i hi
      rw [List.getElem?_eq_getElem (by omega), Option.bind_eq_some_iff] at hb
      obtain ⟨cs, hcs, htr⟩ := hb
      obtain ⟨_, k1, k2⟩ := World.cells?_some hcs
      obtain ⟨xs, m, _, _, hcl, hx1, hx2⟩ := DataW.trod_struct he htr
      rw [hc] at hcl
      have put : ∀ j u, cs[j]? = some u → w.cell? ⟨b, o + i * 5 + j, none⟩ = some u := fun j u hu => by
        have := k2 j (by have := (List.getElem?_eq_some_iff.1 hu).1; omega)
        rw [ea, ea, hu, hc] at this
        exact this
      have t0 := hx2 0 f0 rfl
      have t1 := hx2 1 f1 rfl
      have t2 := hx2 2 f2 rfl
      have hx3 : xs.length = 3 := hx1
      rw [List.getElem?_eq_getElem (by omega), o0, c0] at t0
      rw [List.getElem?_eq_getElem (by omega), o1, c1] at t1
      rw [List.getElem?_eq_getElem (by omega), o2, c2] at t2
      obtain ⟨K, e0, _, _⟩ := DataW.trod_int u0 t0
      obtain ⟨D, e1, _, _⟩ := DataW.trod_int u1 t1
      obtain ⟨ys, m2, _, _, _, hys, hy⟩ := DataW.trod_array u2 t2
      rw [cg] at hy
      have el : ∀ q, q < 3 → ∃ k, (((cs.drop 2).take 3).drop (q * 1)).take 1 = [.int .i16 k] ∧ -32768 ≤ k ∧ k ≤ 32767 := fun q hq => by
        have := hy q hq
        rw [List.getElem?_eq_getElem (by omega)] at this
        obtain ⟨k, e1, _, e3⟩ := DataW.trod_int ug this
        exact ⟨k, e1, wf_i16 e3⟩
      obtain ⟨P0, p0, bp⟩ := el 0 (by decide)
      obtain ⟨Q0, q0, bq⟩ := el 1 (by decide)
      obtain ⟨R0, r0, br⟩ := el 2 (by decide)
      match cs, hcl with
      | [x0, x1, x2, x3, x4], _ =>
        simp at e0 e1 p0 q0 r0
        subst e0 e1 p0 q0 r0
        refine ⟨⟨K, D, P0, Q0, R0⟩, fun j u hu => put j u hu, bp, bq, br⟩
    have h63 : len ≤ 9223372036854775807 := by
      have : cap ≤ 2 ^ 63 - 1 := hm
      omega
    obtain ⟨T, hT1, hT2⟩ := pickF len row
    refine ⟨T, ?_, fun f hf => ?_, by omega⟩
    · rw [← hT1]
      exact IsF.mk (by omega) fun i f hi => (hT2 i f hi).1
    · obtain ⟨i, hi, rfl⟩ := List.getElem_of_mem hf
      exact (hT2 i _ (List.getElem?_eq_getElem hi)).2
/-- A tree as an argument. -/
theorem open_tree {e g : TypeId} {fn f0 f1 f2 : Field} (hs : P.underlying t = some (.struct #[fn])) (hct : P.cellTypes P.depth t = some [fn.type]) (on : fn.offset = 0) (ct : P.cellsOf t = 1) (cn : P.cellsOf fn.type = 1)
    (ht : P.underlying fn.type = some (.slice e)) (he : P.underlying e = some (.struct #[f0, f1, f2])) (hc : P.cellsOf e = 5)
    (u0 : P.underlying f0.type = some (.int .i8)) (u1 : P.underlying f1.type = some (.int .i8)) (u2 : P.underlying f2.type = some (.array 3 g)) (ug : P.underlying g = some (.int .i16)) (cg : P.cellsOf g = 1)
    (o0 : f0.offset = 0) (o1 : f1.offset = 1) (o2 : f2.offset = 2) (c0 : P.cellsOf f0.type = 1) (c1 : P.cellsOf f1.type = 1) (c2 : P.cellsOf f2.type = 3)
    (hv : Value.okWide P w r b0 t v) (h : DataW.Trod enc P w base spare held t v d p) :
    ∃ (T : List Fk) (u : Value), v = .agg #[u] ∧ IsF w T u ∧ Wid T ∧ T.length ≤ 9223372036854775807 := by
  simp only [Value.okWide, hs] at hv
  obtain ⟨cs, rfl, hsz, ts, hts, _, hrow⟩ := hv
  rw [hct] at hts
  cases hts
  obtain ⟨fuel, hf⟩ := h
  obtain ⟨y0, m, _, hl, t0⟩ := trod_struct1 hs hf
  rw [ct] at hsz
  obtain ⟨x0, hcs⟩ : ∃ x0, cs.toList = [x0] := by
    match hq : cs.toList, (show cs.toList.length = 1 by simpa using hsz) with
    | [a], _ => exact ⟨a, rfl⟩
  have hcs' : cs = #[x0] := by rw [← Array.toArray_toList (xs := cs), hcs]
  subst hcs'
  rw [on, cn] at t0
  have r0 : Cell.okWide P w r b0 fn.type x0 := by
    obtain ⟨u, hu, hok⟩ := hrow 0 x0 rfl
    cases hu; exact hok
  obtain ⟨T, a1, a2, a3⟩ := open_forks ht he hc u0 u1 u2 ug cg o0 o1 o2 c0 c1 c2 r0 (by simpa [Value.cells] using t0)
  exact ⟨T, x0, rfl, a1, a2, a3⟩
end
end Go.Proofs.Ytjmpdilffmpkgaa.Sx
