/-
  How a slice of structs of numbers and of arrays of numbers that comes in as an argument reads: as one list of numbers; and a struct of such a slice.
-/
import Derived.Test.YtickjfclmoecpaaLW3
namespace Go.Proofs.Ytickjfclmoecpaa.Sx
open Go Go.RowKit Go.WideShapes Go.ChangeShapes
section
variable {H : Type} {enc : TypeId × Value → H} {P : Program} {w : World} {r : Reach} {b0 base : Nat} {spare : Nat → Bool} {held : Bool} {t : TypeId} {v : Value} {d : DataW H} {p : List MemPlace}

def repK : Nat → List IntKind → List IntKind
  | 0, _ => []
  | n + 1, ks => ks ++ repK n ks
def fieldsK (P : Program) (rec : TypeId → Option (List IntKind)) : Nat → List Field → Option (List IntKind)
  | _, [] => some []
  | i, f :: fs => match rec f.type with
    | some ks => bif Nat.beq f.offset i && Nat.beq (P.cellsOf f.type) ks.length then (fieldsK P rec (i + ks.length) fs).map (ks ++ ·) else none
    | none => none
/-- The kinds of a type's cells, if all of them are numbers. -/
def intsT (P : Program) : Nat → TypeId → Option (List IntKind)
  | 0, _ => none
  | n + 1, t => match P.underlying t with
    | some (.int k) => some [k]
    | some (.array m e) => match intsT P n e with
      | some ks => bif Nat.beq (P.cellsOf e) ks.length then some (repK m ks) else none
      | none => none
    | some (.struct fs) => fieldsK P (intsT P n) 0 fs.toList
    | _ => none
theorem repK_get : ∀ (m : Nat) (ks : List IntKind) (j : Nat) (k : IntKind), (repK m ks)[j]? = some k → ∃ i j', i < m ∧ ks[j']? = some k ∧ j = i * ks.length + j'
  | 0, _, _, _, h => by simp [repK] at h
  | m + 1, ks, j, k, h => by
    unfold repK at h
    by_cases hj : j < ks.length
    · rw [List.getElem?_append_left hj] at h
      exact ⟨0, j, by omega, h, by omega⟩
    · rw [List.getElem?_append_right (by omega)] at h
      obtain ⟨i, j', h1, h2, h3⟩ := repK_get m ks _ k h
      exact ⟨i + 1, j', by omega, h2, by rw [Nat.add_mul]; omega⟩
theorem fieldsK_get {rec : TypeId → Option (List IntKind)} : ∀ (fs : List Field) (i : Nat) (ks : List IntKind), fieldsK P rec i fs = some ks → ∀ j k, ks[j]? = some k →
    ∃ (q : Nat) (f : Field) (ks' : List IntKind) (j' : Nat), fs[q]? = some f ∧ rec f.type = some ks' ∧ P.cellsOf f.type = ks'.length ∧ ks'[j']? = some k ∧ i + j = f.offset + j'
  | [], _, ks, h, j, k, hj => by simp only [fieldsK, Option.some.injEq] at h; subst h; simp at hj
  | f :: fs, i, ks, h, j, k, hj => by
    simp only [fieldsK] at h
    split at h
    · rename_i ks' hr
      cases c : (Nat.beq f.offset i && Nat.beq (P.cellsOf f.type) ks'.length) <;> simp only [c, cond_false, cond_true] at h
      · cases h
      simp only [Bool.and_eq_true] at c
      have c1 := Nat.eq_of_beq_eq_true c.1
      have c2 := Nat.eq_of_beq_eq_true c.2
      simp only [Option.map_eq_some_iff] at h
      obtain ⟨rs, h1, rfl⟩ := h
      by_cases hjl : j < ks'.length
      · rw [List.getElem?_append_left hjl] at hj
        exact ⟨0, f, ks', j, rfl, hr, c2, hj, by omega⟩
      · rw [List.getElem?_append_right (by omega)] at hj
        obtain ⟨q, g, ks2, j', e1, e2, e3, e4, e5⟩ := fieldsK_get fs _ rs h1 _ k hj
        exact ⟨q + 1, g, ks2, j', by simpa using e1, e2, e3, e4, by omega⟩
    · cases h
theorem intsT_get : ∀ (n : Nat) (t : TypeId) (ks : List IntKind), intsT P n t = some ks → ∀ (fuel : Nat) (cs : List Value) (y : DataW H × List MemPlace), DataW.trod enc P w base spare held fuel t cs = some y →
    ∀ (j : Nat) (k : IntKind), ks[j]? = some k → ∃ x : Int, cs[j]? = some (Value.int k x) ∧ (kiv k).has x
  | 0, _, _, h, _, _, _, _, _, _, _ => by cases h
  | n + 1, t, ks, h, fuel, cs, y, hy, j, k, hj => by
    simp only [intsT] at h
    split at h
    · rename_i k' hu
      cases h
      obtain ⟨x, e1, _, e3⟩ := DataW.trod_int hu hy
      have hj0 : j = 0 := by
        have := (List.getElem?_eq_some_iff.1 hj).1
        simp at this; exact this
      subst hj0
      simp only [List.getElem?_cons_zero, Option.some.injEq] at hj
      subst hj
      exact ⟨x, by rw [e1]; rfl, wf_has e3⟩
    · rename_i m e hu
      split at h
      · rename_i ks' hr
        cases c : Nat.beq (P.cellsOf e) ks'.length <;> simp only [c, cond_false, cond_true] at h
        · cases h
        cases h
        have c := Nat.eq_of_beq_eq_true c
        obtain ⟨xs, _, _, _, _, hxs, hx⟩ := DataW.trod_array hu hy
        obtain ⟨i, j', h1, h2, rfl⟩ := repK_get m ks' j k hj
        have hi := hx i h1
        rw [List.getElem?_eq_getElem (by omega)] at hi
        obtain ⟨x, e1, e2⟩ := intsT_get n e ks' hr _ _ _ hi j' k h2
        have hj' : j' < ks'.length := (List.getElem?_eq_some_iff.1 h2).1
        rw [List.getElem?_take_of_lt (by omega), List.getElem?_drop, c] at e1
        exact ⟨x, e1, e2⟩
      · cases h
    · rename_i fs hu
      obtain ⟨q, f, ks', j', e1, e2, e3, e4, e5⟩ := fieldsK_get fs.toList 0 ks h j k hj
      obtain ⟨xs, _, _, _, _, hlen, hf⟩ := DataW.trod_struct hu hy
      have hq : fs[q]? = some f := by simpa using e1
      have hsz : q < fs.size := (Array.getElem?_eq_some_iff.1 hq).1
      have hx := hf q f hq
      rw [List.getElem?_eq_getElem (show q < xs.length by omega)] at hx
      obtain ⟨x, g1, g2⟩ := intsT_get n f.type ks' e2 _ _ _ hx j' k e4
      have hj' : j' < ks'.length := (List.getElem?_eq_some_iff.1 e4).1
      rw [List.getElem?_take_of_lt (by omega), List.getElem?_drop, ← e5, Nat.zero_add] at g1
      exact ⟨x, g1, g2⟩
    · cases h

def cellNum (w : World) (a : Addr) : Int := match w.cell? a with
  | some (.int _ n) => n
  | _ => 0
theorem open_cellsG {e : TypeId} {ks : List IntKind} {fuel : Nat} {c : Value} {x : DataW H × List MemPlace} (ht : P.underlying t = some (.slice e)) (hi : intsT P 4 e = some ks) (hc : P.cellsOf e = ks.length) (hk0 : 0 < ks.length)
    (hv : Cell.okWide P w r b0 t c) (h : DataW.trod enc P w base spare held fuel t [c] = some x) :
    ∃ (l : List Int), SliceIs w ks l c ∧ ((∀ x ∈ l, (kindsIv ks).has x) ∧ (l.length : Int) ≤ Sx.maxLen * (ks.length : Int)) := by
  rcases DataW.trod_slice ht h with ⟨h1, _⟩ | ⟨a, len, cap, elems, rest, n, _, h1, _, _, hl, hm, hlen, hel, _, _⟩
  · have h1 : c = .slice none 0 0 := by simpa using h1
    subst h1
    refine ⟨[], ⟨none, 0, 0, rfl, by simp, ⟨fun i x hx => (by simp at hx), by simp⟩, fun _ => ⟨rfl, rfl⟩, fun p hp => (by cases hp), by simp⟩, fun x hx => (by cases hx), ?_⟩
    have : (0 : Int) ≤ Sx.maxLen * (ks.length : Int) := Int.mul_nonneg (by decide) (Int.natCast_nonneg _)
    simpa using this
  · have h1 : c = .slice (some a) len cap := by simpa using h1
    subst h1
    have hs : a.spot = none := by
      unfold Cell.okWide at hv
      rw [ht] at hv
      simp only at hv
      unfold Go.Cell.ok at hv
      rw [ht] at hv
      simp only at hv
      exact hv.2.2.2.1
    obtain ⟨b, o, s⟩ := a
    simp only at hs
    subst hs
    have ea : ∀ o i, (Addr.mk b o none).add i = ⟨b, o + i, none⟩ := fun o i => by
      unfold Addr.add
      split
      · rename_i e0; rw [e0]; rfl
      · rfl
    have cell : ∀ i j k, i < len → ks[j]? = some k → ∃ x, w.cell? ⟨b, o + (i * ks.length + j), none⟩ = some (.int k x) ∧ (kiv k).has x := fun i j k hi' hk => by
      have hb := hel i hi'
      rw [List.getElem?_eq_getElem (by omega), Option.bind_eq_some_iff] at hb
      obtain ⟨cs, hcs, htr⟩ := hb
      obtain ⟨_, c1, c2⟩ := World.cells?_some hcs
      have hj : j < ks.length := (List.getElem?_eq_some_iff.1 hk).1
      obtain ⟨x, e2, e3⟩ := intsT_get 4 e ks hi _ _ _ htr j k hk
      refine ⟨x, ?_, e3⟩
      have := c2 j (by omega)
      rw [ea, ea, e2, hc] at this
      rw [← this, Nat.add_assoc]
    let l : List Int := (List.range (len * ks.length)).map fun q => cellNum w ⟨b, o + q, none⟩
    have hll : l.length = len * ks.length := by simp [l]
    have get : ∀ q x, l[q]? = some x → w.cell? ⟨b, o + q, none⟩ = some (.int (kindAt ks q) x) ∧ (kiv (kindAt ks q)).has x := fun q x hx => by
      have hq : q < len * ks.length := by
        have := (List.getElem?_eq_some_iff.1 hx).1
        omega
      have hj : q % ks.length < ks.length := Nat.mod_lt _ hk0
      have hi : q / ks.length < len := Nat.div_lt_of_lt_mul (by rw [Nat.mul_comm]; exact hq)
      obtain ⟨y, y1, y2⟩ := cell (q / ks.length) (q % ks.length) _ hi (List.getElem?_eq_getElem hj)
      rw [Nat.div_add_mod'] at y1
      have hk : kindAt ks q = ks[q % ks.length] := by
        unfold kindAt
        rw [List.getD_eq_getElem?_getD, List.getElem?_eq_getElem hj]; rfl
      have hy : x = y := by
        simp only [l, List.getElem?_map, List.getElem?_range hq, Option.map_some, Option.some.injEq] at hx
        rw [← hx]
        unfold cellNum
        rw [y1]
      subst hy
      rw [hk]
      exact ⟨y1, y2⟩
    refine ⟨l, ⟨some (b, o), len, cap, rfl, ?_, ⟨fun i x hx => (get i x hx).2, ?_⟩, fun hn => (by cases hn), fun p hp i x hx => ?_, ?_⟩, fun x hx => ?_, ?_⟩
    · rw [hll, Nat.mul_div_cancel _ hk0]
    · rw [hll, Nat.mul_mod_left]
    · cases hp
      exact (get i x hx).1
    · rw [hll]
      exact Nat.mul_le_mul_right _ (by omega)
    · obtain ⟨i, hi, rfl⟩ := List.getElem_of_mem hx
      have := (get i _ (List.getElem?_eq_getElem hi)).2
      refine kindsIv_mem (k := kindAt ks i) ?_ _ this
      unfold kindAt
      have hj : i % ks.length < ks.length := Nat.mod_lt _ hk0
      rw [List.getD_eq_getElem?_getD, List.getElem?_eq_getElem hj]
      exact List.getElem_mem hj
    · rw [hll]
      have h63 : (len : Int) ≤ Sx.maxLen := by
        have : cap ≤ 2 ^ 63 - 1 := hm
        show (len : Int) ≤ 9223372036854775807
        omega
      rw [Int.natCast_mul]
      exact Int.mul_le_mul_of_nonneg_right h63 (Int.natCast_nonneg _)
/-- A struct of one slice. -/
theorem open_boxG {e : TypeId} {ks : List IntKind} {f0 : Field} (hs : P.underlying t = some (.struct #[f0])) (hct : P.cellTypes P.depth t = some [f0.type]) (h0 : P.underlying f0.type = some (.slice e))
    (hi : intsT P 4 e = some ks) (hc : P.cellsOf e = ks.length) (hk0 : 0 < ks.length) (o0 : f0.offset = 0) (ct : P.cellsOf t = 1) (c0 : P.cellsOf f0.type = 1)
    (hv : Value.okWide P w r b0 t v) (h : DataW.Trod enc P w base spare held t v d p) :
    ∃ (l : List Int) (vs : List Value), v = .agg vs.toArray ∧ SlicesAre w [l] 0 [ks] vs ∧ allL [(kindsIv ks, Sx.maxLen * (ks.length : Int))] [l] := by
  simp only [Value.okWide, hs] at hv
  obtain ⟨cs, rfl, hsz, ts, hts, _, hrow⟩ := hv
  rw [hct] at hts
  cases hts
  obtain ⟨fuel, hf⟩ := h
  obtain ⟨y0, n, _, hl, t0⟩ := trod_struct1 hs hf
  rw [ct] at hsz
  obtain ⟨x0, hcs⟩ : ∃ x0, cs.toList = [x0] := by
    match hq : cs.toList, (show cs.toList.length = 1 by simpa using hsz) with
    | [a], _ => exact ⟨a, rfl⟩
  have hcs' : cs = #[x0] := by rw [← Array.toArray_toList (xs := cs), hcs]
  subst hcs'
  rw [o0, c0] at t0
  have t0 : DataW.trod enc P w base spare held n f0.type [x0] = some y0 := by simpa [Value.cells] using t0
  have k0 : Cell.okWide P w r b0 f0.type x0 := by
    obtain ⟨u, hu, hok⟩ := hrow 0 x0 rfl
    cases hu; exact hok
  obtain ⟨l, s1, s2⟩ := open_cellsG h0 hi hc hk0 k0 t0
  exact ⟨l, [x0], rfl, ⟨x0, [], rfl, s1, rfl⟩, s2, trivial⟩
end
end Go.Proofs.Ytickjfclmoecpaa.Sx
