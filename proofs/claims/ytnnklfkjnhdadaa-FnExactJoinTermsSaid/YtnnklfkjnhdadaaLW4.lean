/-
  How a slice of structs of numbers that comes in as an argument reads: as one list of numbers.
-/
import Derived.Test.YtnnklfkjnhdadaaLW3
namespace Go.Proofs.Ytnnklfkjnhdadaa.Sx
open Go Go.RowKit Go.WideShapes Go.ChangeShapes
section
variable {H : Type} {enc : TypeId × Value → H} {P : Program} {w : World} {r : Reach} {b0 base : Nat} {spare : Nat → Bool} {held : Bool} {t : TypeId} {v : Value} {d : DataW H} {p : List MemPlace}

/-- The fields of a struct are numbers of these kinds, one after the other. -/
def fieldsB (P : Program) : Nat → List Field → List IntKind → Bool
  | _, [], [] => true
  | i, f :: fs, k :: ks => Nat.beq f.offset i && (Nat.beq (P.cellsOf f.type) 1 && ((match P.underlying f.type with
    | some (.int k') => decide (k' = k)
    | _ => false) && fieldsB P (i + 1) fs ks))
  | _, _, _ => false
theorem fieldsB_get {P : Program} : ∀ {fs : List Field} {ks : List IntKind} {i : Nat}, fieldsB P i fs ks = true → ∀ j k, ks[j]? = some k → ∃ f, fs[j]? = some f ∧ f.offset = i + j ∧ P.cellsOf f.type = 1 ∧ P.underlying f.type = some (.int k)
  | [], [], _, _, j, k, h => by simp at h
  | [], _ :: _, _, h, _, _, _ => by simp [fieldsB] at h
  | _ :: _, [], _, h, _, _, _ => by simp [fieldsB] at h
  | f :: fs, q :: ks, i, h, 0, k, hj => by
    simp only [fieldsB, Bool.and_eq_true] at h
    obtain ⟨h1, h2, h3, _⟩ := h
    simp only [List.getElem?_cons_zero, Option.some.injEq] at hj
    subst hj
    refine ⟨f, rfl, Nat.eq_of_beq_eq_true h1, Nat.eq_of_beq_eq_true h2, ?_⟩
    split at h3
    · rename_i k' hu
      rw [hu, of_decide_eq_true h3]
    · cases h3
  | f :: fs, q :: ks, i, h, j + 1, k, hj => by
    simp only [fieldsB, Bool.and_eq_true] at h
    obtain ⟨f', g1, g2, g3, g4⟩ := fieldsB_get h.2.2.2 j k (by simpa using hj)
    exact ⟨f', by simpa using g1, by omega, g3, g4⟩
def cellNum (w : World) (a : Addr) : Int := match w.cell? a with
  | some (.int _ n) => n
  | _ => 0
theorem open_listS {e : TypeId} {fs : Array Field} {ks : List IntKind} (ht : P.underlying t = some (.slice e)) (he : P.underlying e = some (.struct fs)) (hc : P.cellsOf e = ks.length) (hk0 : 0 < ks.length) (hfs : fieldsB P 0 fs.toList ks = true)
    (hv : Value.okWide P w r b0 t v) (h : DataW.Trod enc P w base spare held t v d p) :
    ∃ (l : List Int) (c : Value), v = c ∧ SliceIs w ks l c ∧ ((∀ x ∈ l, (kindsIv ks).has x) ∧ (l.length : Int) ≤ Sx.maxLen * (ks.length : Int)) := by
  obtain ⟨a0, len0, cap0, rfl⟩ := okWide_slice ht hv
  simp only [Value.okWide, ht] at hv
  obtain ⟨fuel, hf⟩ := h
  rcases DataW.trod_slice ht hf with ⟨h1, _⟩ | ⟨a, len, cap, elems, rest, n, _, h1, _, _, hl, hm, hlen, hel, _, _⟩
  · have h1 : a0 = none ∧ len0 = 0 ∧ cap0 = 0 := by simpa [Value.cells] using h1
    obtain ⟨rfl, rfl, rfl⟩ := h1
    refine ⟨[], _, rfl, ⟨none, 0, 0, rfl, by simp, ⟨fun i x hx => (by simp at hx), by simp⟩, fun _ => ⟨rfl, rfl⟩, fun p hp => (by cases hp), by simp⟩, fun x hx => (by cases hx), ?_⟩
    have : (0 : Int) ≤ Sx.maxLen * (ks.length : Int) := Int.mul_nonneg (by decide) (Int.natCast_nonneg _)
    simpa using this
  · have h1 : a0 = some a ∧ len0 = len ∧ cap0 = cap := by simpa [Value.cells] using h1
    obtain ⟨rfl, rfl, rfl⟩ := h1
    have hs : a.spot = none := by
      unfold Cell.okWide at hv
      rw [ht] at hv
      simp only at hv
      unfold Go.Cell.ok at hv
      rw [ht] at hv
      simp only at hv
      exact hv.2.2.2.1
    obtain ⟨b, o, s⟩ := a
    simp only at hs
    subst hs
    have ea : ∀ o i, (Addr.mk b o none).add i = ⟨b, o + i, none⟩ := fun o i => by
      unfold Addr.add
      split
      · rename_i e0; rw [e0]; rfl
      · rfl
    have cell : ∀ i j k, i < len0 → ks[j]? = some k → ∃ x, w.cell? ⟨b, o + (i * ks.length + j), none⟩ = some (.int k x) ∧ (kiv k).has x := fun i j k hi hk => by
      have hb := hel i hi
      rw [List.getElem?_eq_getElem (by omega), Option.bind_eq_some_iff] at hb
      obtain ⟨cs, hcs, htr⟩ := hb
      obtain ⟨_, c1, c2⟩ := World.cells?_some hcs
      obtain ⟨f, f1, f2, f3, f4⟩ := fieldsB_get hfs j k hk
      obtain ⟨xs, m, _, _, _, hx1, hx2⟩ := DataW.trod_struct he htr
      have hj : j < ks.length := (List.getElem?_eq_some_iff.1 hk).1
      have hfj : fs[j]? = some f := by simpa using f1
      have hsz : j < fs.size := (Array.getElem?_eq_some_iff.1 hfj).1
      have hx := hx2 j f hfj
      rw [List.getElem?_eq_getElem (show j < xs.length by omega), f2, f3, Nat.zero_add] at hx
      obtain ⟨x, e1, _, e3⟩ := DataW.trod_int f4 hx
      have e2 : cs[j]? = some (.int k x) := by
        have : ((cs.drop j).take 1)[0]? = some (.int k x) := by rw [e1]; rfl
        rw [List.getElem?_take_of_lt (by decide), List.getElem?_drop] at this
        simpa using this
      refine ⟨x, ?_, wf_has e3⟩
      have := c2 j (by omega)
      rw [ea, ea, e2, hc] at this
      rw [← this, Nat.add_assoc]
    let l : List Int := (List.range (len0 * ks.length)).map fun q => cellNum w ⟨b, o + q, none⟩
    have hll : l.length = len0 * ks.length := by simp [l]
    have get : ∀ q x, l[q]? = some x → w.cell? ⟨b, o + q, none⟩ = some (.int (kindAt ks q) x) ∧ (kiv (kindAt ks q)).has x := fun q x hx => by
      have hq : q < len0 * ks.length := by
        have := (List.getElem?_eq_some_iff.1 hx).1
        omega
      have hj : q % ks.length < ks.length := Nat.mod_lt _ hk0
      have hi : q / ks.length < len0 := Nat.div_lt_of_lt_mul (by rw [Nat.mul_comm]; exact hq)
      obtain ⟨y, y1, y2⟩ := cell (q / ks.length) (q % ks.length) _ hi (List.getElem?_eq_getElem hj)
      rw [Nat.div_add_mod'] at y1
      have hk : kindAt ks q = ks[q % ks.length] := by
        unfold kindAt
        rw [List.getD_eq_getElem?_getD, List.getElem?_eq_getElem hj]; rfl
      have hy : x = y := by
        simp only [l, List.getElem?_map, List.getElem?_range hq, Option.map_some, Option.some.injEq] at hx
        rw [← hx]
        unfold cellNum
        rw [y1]
      subst hy
      rw [hk]
      exact ⟨y1, y2⟩
    refine ⟨l, _, rfl, ⟨some (b, o), len0, cap0, rfl, ?_, ⟨fun i x hx => (get i x hx).2, ?_⟩, fun hn => (by cases hn), fun p hp i x hx => ?_, (by rw [hll]; exact Nat.mul_le_mul_right _ hl)⟩, fun x hx => ?_, ?_⟩
    · rw [hll, Nat.mul_div_cancel _ hk0]
    · rw [hll, Nat.mul_mod_left]
    · cases hp
      exact (get i x hx).1
    · obtain ⟨i, hi, rfl⟩ := List.getElem_of_mem hx
      have := (get i _ (List.getElem?_eq_getElem hi)).2
      refine kindsIv_mem (k := kindAt ks i) ?_ _ this
      unfold kindAt
      have hj : i % ks.length < ks.length := Nat.mod_lt _ hk0
      rw [List.getD_eq_getElem?_getD, List.getElem?_eq_getElem hj]
      exact List.getElem_mem hj
    · rw [hll]
      have h63 : (len0 : Int) ≤ Sx.maxLen := by
        have : cap0 ≤ 2 ^ 63 - 1 := hm
        show (len0 : Int) ≤ 9223372036854775807
        omega
      rw [Int.natCast_mul]
      exact Int.mul_le_mul_of_nonneg_right h63 (Int.natCast_nonneg _)
end
end Go.Proofs.Ytnnklfkjnhdadaa.Sx
