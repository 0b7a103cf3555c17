/-
  How a row of lines that comes in as an argument reads.
-/
import Derived.Test.YtejmncldmnkakaaJ0
import Derived.ProofKit
import Derived.OpenShut
import Derived.ShutString
import Derived.ChangeOld
import Derived.ChangeSlices
import Derived.ChangeArms
import Derived.Below
namespace Go.Proofs.Ytejmncldmnkakaa.Sx
open Go Go.RowKit Go.WideShapes Go.ChangeShapes
set_option linter.unusedVariables false

theorem pickL {Q : Nat → Ln → Prop} : ∀ (n : Nat), (∀ i, i < n → ∃ L, Q i L) → ∃ ls : List Ln, ls.length = n ∧ ∀ i L, ls[i]? = some L → Q i L
  | 0, _ => ⟨[], rfl, fun i L h => by simp at h⟩
  | n + 1, h => by
    obtain ⟨ls, g1, g2⟩ := pickL n (fun i hi => h i (by omega))
    obtain ⟨L, hL⟩ := h n (by omega)
    refine ⟨ls ++ [L], by simp [g1], fun i M hM => ?_⟩
    by_cases hi : i < n
    · rw [List.getElem?_append_left (by omega)] at hM
      exact g2 i M hM
    · rw [List.getElem?_append_right (by omega), g1] at hM
      by_cases hin : i = n
      · subst hin
        simp at hM
        rw [← hM]; exact hL
      · rw [List.getElem?_eq_none (by simp; omega)] at hM
        cases hM
section
variable {H : Type} {enc : TypeId × Value → H} {P : Program} {w : World} {r : Reach} {b0 base : Nat} {spare : Nat → Bool} {held : Bool} {t : TypeId} {v : Value} {d : DataW H} {p : List MemPlace}
/-- The fields of a struct are texts and numbers of these kinds, one after the other. -/
def fieldsK (P : Program) : Nat → List Field → List (Option IntKind) → Bool
  | _, [], [] => true
  | i, f :: fs, k :: ks => Nat.beq f.offset i && (Nat.beq (P.cellsOf f.type) 1 && ((match P.underlying f.type, k with
    | some (.int k'), some q => decide (k' = q)
    | some .string, none => true
    | _, _ => false) && fieldsK P (i + 1) fs ks))
  | _, _, _ => false
theorem fieldsK_get {P : Program} : ∀ {fs : List Field} {ks : List (Option IntKind)} {i : Nat}, fieldsK P i fs ks = true → ∀ j k, ks[j]? = some k → ∃ f, fs[j]? = some f ∧ f.offset = i + j ∧ P.cellsOf f.type = 1 ∧ (match k with | some q => P.underlying f.type = some (.int q) | none => P.underlying f.type = some .string)
  | [], [], _, _, j, k, h => by simp at h
  | [], _ :: _, _, h, _, _, _ => by simp [fieldsK] at h
  | _ :: _, [], _, h, _, _, _ => by simp [fieldsK] at h
  | f :: fs, q :: ks, i, h, 0, k, hj => by
    simp only [fieldsK, Bool.and_eq_true] at h
    obtain ⟨h1, h2, h3, _⟩ := h
    simp only [List.getElem?_cons_zero, Option.some.injEq] at hj
    subst hj
    refine ⟨f, rfl, Nat.eq_of_beq_eq_true h1, Nat.eq_of_beq_eq_true h2, ?_⟩
    split at h3
    · rename_i k' q' hu
      rw [hu, of_decide_eq_true h3]
    · rename_i hu
      exact hu
    · cases h3
  | f :: fs, q :: ks, i, h, j + 1, k, hj => by
    simp only [fieldsK, Bool.and_eq_true] at h
    obtain ⟨f', g1, g2, g3, g4⟩ := fieldsK_get h.2.2.2 j k (by simpa using hj)
    exact ⟨f', by simpa using g1, by omega, g3, g4⟩
theorem open_lines {e : TypeId} {fs : Array Field} (ht : P.underlying t = some (.slice e)) (he : P.underlying e = some (.struct fs)) (hc : P.cellsOf e = 6) (hfs : fieldsK P 0 fs.toList [none, some .i8, none, none, some .i64, some .i64] = true)
    (hv : Value.okWide P w r b0 t v) (h : DataW.Trod enc P w base spare held t v d p) :
    ∃ ls : List Ln, IsLn w ls v ∧ (∀ L ∈ ls, LnOk L) ∧ ls.length ≤ 9223372036854775807 := by
  obtain ⟨a0, len0, cap0, rfl⟩ := okWide_slice ht hv
  simp only [Value.okWide, ht] at hv
  obtain ⟨fuel, hf⟩ := h
  rcases DataW.trod_slice ht hf with ⟨h1, _⟩ | ⟨a, len, cap, elems, rest, n, _, h1, _, _, hl, hm, hlen, hel, _, _⟩
  · have h1 : a0 = none ∧ len0 = 0 ∧ cap0 = 0 := by simpa [Value.cells] using h1
    obtain ⟨rfl, rfl, rfl⟩ := h1
    exact ⟨[], .inl ⟨rfl, rfl⟩, fun L hL => (by cases hL), by simp⟩
  · have h1 : a0 = some a ∧ len0 = len ∧ cap0 = cap := by simpa [Value.cells] using h1
    obtain ⟨rfl, rfl, rfl⟩ := h1
    have hs : a.spot = none := by
      unfold Cell.okWide at hv
      rw [ht] at hv
      simp only at hv
      unfold Go.Cell.ok at hv
      rw [ht] at hv
      simp only at hv
      exact hv.2.2.2.1
    obtain ⟨b, o, s⟩ := a
    simp only at hs
    subst hs
    have ea : ∀ o i, (Addr.mk b o none).add i = ⟨b, o + i, none⟩ := fun o i => by
      unfold Addr.add
      split
      · rename_i e0; rw [e0]; rfl
      · rfl
    have row : ∀ i, i < len0 → ∃ L, At6 w b (o + i * 6) L ∧ LnOk L := fun i hi => by
      have hb := hel i hi
      rw [List.getElem?_eq_getElem (by omega), Option.bind_eq_some_iff] at hb
      obtain ⟨cs, hcs, htr⟩ := hb
      obtain ⟨_, c1, c2⟩ := World.cells?_some hcs
      obtain ⟨xs, m, _, _, _, hx1, hx2⟩ := DataW.trod_struct he htr
      have fld : ∀ j k, [none, some IntKind.i8, none, none, some IntKind.i64, some IntKind.i64][j]? = some k → ∃ f, fs[j]? = some f ∧ (∃ y, DataW.trod enc P w base spare held m f.type ((cs.drop j).take 1) = some y) ∧ (match k with | some q => P.underlying f.type = some (.int q) | none => P.underlying f.type = some .string) := fun j k hk => by
        obtain ⟨f, f1, f2, f3, f4⟩ := fieldsK_get hfs j k hk
        have hfj : fs[j]? = some f := by simpa using f1
        have hsz : j < fs.size := (Array.getElem?_eq_some_iff.1 hfj).1
        have hx := hx2 j f hfj
        rw [List.getElem?_eq_getElem (show j < xs.length by omega), f2, f3, Nat.zero_add] at hx
        exact ⟨f, hfj, ⟨_, hx⟩, f4⟩
      have put : ∀ j u, (cs.drop j).take 1 = [u] → j < 6 → w.cell? ⟨b, o + i * 6 + j, none⟩ = some u := fun j u hu hj => by
        have e2 : cs[j]? = some u := by
          have : ((cs.drop j).take 1)[0]? = some u := by rw [hu]; rfl
          rw [List.getElem?_take_of_lt (by decide), List.getElem?_drop] at this
          simpa using this
        have := c2 j (by omega)
        rw [ea, ea, e2, hc] at this
        exact this
      obtain ⟨f0, _, ⟨y0, t0⟩, u0⟩ := fld 0 none rfl
      obtain ⟨f1, _, ⟨y1, t1⟩, u1⟩ := fld 1 (some .i8) rfl
      obtain ⟨f2, _, ⟨y2, t2⟩, u2⟩ := fld 2 none rfl
      obtain ⟨f3, _, ⟨y3, t3⟩, u3⟩ := fld 3 none rfl
      obtain ⟨f4, _, ⟨y4, t4⟩, u4⟩ := fld 4 (some .i64) rfl
      obtain ⟨f5, _, ⟨y5, t5⟩, u5⟩ := fld 5 (some .i64) rfl
      obtain ⟨s0, e0, _, z0⟩ := DataW.trod_string u0 t0
      obtain ⟨x1, e1, _, _⟩ := DataW.trod_int u1 t1
      obtain ⟨s2, e2, _, z2⟩ := DataW.trod_string u2 t2
      obtain ⟨s3, e3, _, z3⟩ := DataW.trod_string u3 t3
      obtain ⟨x4, e4, _, _⟩ := DataW.trod_int u4 t4
      obtain ⟨x5, e5, _, _⟩ := DataW.trod_int u5 t5
      have k0 := put 0 _ e0 (by omega)
      rw [Nat.add_zero] at k0
      refine ⟨⟨s0, x1, s2, s3, x4, x5⟩, ⟨k0, put 1 _ e1 (by omega), put 2 _ e2 (by omega), put 3 _ e3 (by omega), put 4 _ e4 (by omega), put 5 _ e5 (by omega)⟩, ?_⟩
      unfold maxLen at z0 z2 z3
      exact ⟨by show s0.size ≤ _; omega, by show s2.size ≤ _; omega, by show s3.size ≤ _; omega⟩
    have h63 : len0 ≤ 9223372036854775807 := by
      have : cap0 ≤ 2 ^ 63 - 1 := hm
      omega
    obtain ⟨ls, hls1, hls2⟩ := pickL len0 row
    refine ⟨ls, .inr ⟨b, o, cap0, by rw [hls1], fun i L hL => (hls2 i L hL).1⟩, fun L hL => ?_, by omega⟩
    obtain ⟨i, hi, rfl⟩ := List.getElem_of_mem hL
    exact (hls2 i _ (List.getElem?_eq_getElem hi)).2
end
end Go.Proofs.Ytejmncldmnkakaa.Sx
