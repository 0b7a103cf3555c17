/-
  Lists of digits; copies and equality of lists.
-/
import Derived.Test.YtpghmmklbhobmaaE4
namespace Go.Proofs.Ytpghmmklbhobmaa.Sx
open Go Go.RowKit
set_option linter.unusedVariables false
set_option linter.unusedSimpArgs false

/-- Nothing is called. -/
def tab0 : Tab := ⟨fun _ => none, fun _ _ => [], fun _ => none, fun _ => none⟩
def pre0 : Nat → LQ := fun _ _ _ => True
def invCp (_ : Nat) (ρ σ : Env) : Prop := match ρ.l, σ.i, σ.l with
  | [l], [i], [o] => 0 ≤ i ∧ i ≤ (l.length : Int) ∧ o.length = l.length ∧ ∀ j : Nat, (j : Int) < i → o[j]? = l[j]?
  | _, _, _ => False
def muCp (_ : Nat) (ρ σ : Env) : Nat := match ρ.l, σ.i with
  | [l], [i] => ((l.length : Int) - i).toNat
  | _, _ => 0
theorem I64_ok {x : Int} (h : -9223372036854775808 ≤ x ∧ x ≤ 9223372036854775807) : allHas [⟨-9223372036854775808, 9223372036854775807⟩] [x] := ⟨h, trivial⟩

theorem toInt8S_cp : CTC Try.prog 9 s9 y9 := by
  refine k9 tab0 invCp muCp pre0 trivial trivial trivial trivial fun l hl _ => ?_
  have hlen : (l.length : Int) ≤ 1099511627776 := hl.1.2
  simp only [p9, decide_eq_true_eq, decide_eq_false_iff_not, Int.le_refl, true_and, forall_const, Int.mul_one, Int.toNat_natCast, List.length_replicate, Int.zero_add]
  refine ⟨⟨I64_ok (by omega), ?_⟩, fun i o hi ho hI => ?_⟩
  · exact ⟨Int.le_refl _, by omega, by simp, fun j hj => by omega⟩
  · obtain ⟨h1, h2, h3, h4⟩ : 0 ≤ i ∧ i ≤ (l.length : Int) ∧ o.length = l.length ∧ ∀ j : Nat, (j : Int) < i → o[j]? = l[j]? := hI
    obtain ⟨n, rfl⟩ := Int.eq_ofNat_of_zero_le h1
    refine ⟨fun hlt => ?_, fun hge => ?_⟩
    · refine ⟨by omega, fun _ => ⟨⟨h1, hlt⟩, fun _ => ⟨hlt, fun _ x hx => ⟨⟨h1, by omega⟩, fun _ => ⟨by omega, fun _ y hy => ?_⟩⟩⟩⟩⟩
      have hw : IntKind.wrap .i64 ((n : Int) + 1) = n + 1 := wrap_id (k := .i64) ⟨by show (-9223372036854775808 : Int) ≤ _; omega, by show _ ≤ (9223372036854775807 : Int); omega⟩
      rw [hw] at hy
      subst hy hx
      refine ⟨I64_ok (by omega), ?_, ?_⟩
      · refine ⟨by omega, by omega, by rw [List.length_set]; exact h3, fun j hj => ?_⟩
        rw [Int.toNat_natCast, List.getElem?_set]
        by_cases e : n = j
        · subst e
          rw [if_pos rfl, if_pos (by omega), List.getD_eq_getElem?_getD, List.getElem?_eq_getElem (by omega)]
          rfl
        · rw [if_neg e]
          exact h4 j (by omega)
      · show ((l.length : Int) - (n + 1)).toNat < ((l.length : Int) - n).toNat
        omega
    · refine ⟨by omega, fun _ => ?_⟩
      have : o = l := List.ext_getElem? fun j => by
        by_cases hj : (j : Int) < n
        · exact h4 j hj
        · rw [List.getElem?_eq_none (by omega), List.getElem?_eq_none (by omega)]
      rw [this]
theorem hasI {x : Int} (h : I64 x) : allHas [⟨-9223372036854775808, 9223372036854775807⟩] [x] := ⟨h, trivial⟩
theorem one01 {c : Prop} [Decidable c] {y : Int} (h : y = if c then 1 else 0) : y = 1 ↔ c := by
  rw [h]; split <;> simp_all
theorem outL1 {g : Nat} {s : Sig} {F : LF} {xs : List Int} {ls : List (List Int)} {y z : Int} (h : tb.sig g = some s) (hl : tb.fl g = some F) (hn : (resKds s).length = 1) (hy : [y] = tb.outL g 1 xs ls) (hz : F xs ls = [z]) (hr : allHas ((resKds s).map Kd.iv) [z]) : y = z := by
  have := outP h hl hn hy (by rw [hz]; exact hr)
  rw [hz] at this
  simpa using this

def invEq (_ : Nat) (ρ σ : Env) : Prop := match ρ.l, σ.i with
  | [a, b], [i] => 0 ≤ i ∧ i ≤ (a.length : Int) ∧ a.length = b.length ∧ ∀ j : Nat, (j : Int) < i → a[j]? = b[j]?
  | _, _ => False
def muEq (_ : Nat) (ρ σ : Env) : Nat := match ρ.l, σ.i with
  | a :: _, [i] => ((a.length : Int) - i).toNat
  | _, _ => 0
theorem getD_some {a : List Int} {n : Nat} (h : n < a.length) : a[n]? = some (a.getD n 0) := by
  rw [List.getD_eq_getElem?_getD, List.getElem?_eq_getElem h]; rfl
theorem cEq8S : CN 12 s12 := by
  refine k12 tb invEq muEq pr trivial trivial rfl trivial trivial (fun _ _ h _ => h) fun a b hx hl _ => ?_
  have hlen : (a.length : Int) ≤ 9223372036854775807 := hl.1.2
  simp only [p12, decide_eq_true_eq, decide_eq_false_iff_not, Bool.not_eq_true', Bool.not_eq_false', Int.zero_add]
  show (_ → [0] = [if a = b then (1 : Int) else 0]) ∧ _
  refine ⟨fun h => ?_, fun h => ⟨⟨hasI ⟨by decide, by decide⟩, Int.le_refl _, by omega, by omega, fun j hj => by omega⟩, fun i hi hI => ?_⟩⟩
  · rw [if_neg (fun e => h (by rw [e]))]
  · obtain ⟨h1, h2, h3, h4⟩ : 0 ≤ i ∧ i ≤ (a.length : Int) ∧ a.length = b.length ∧ ∀ j : Nat, (j : Int) < i → a[j]? = b[j]? := hI
    obtain ⟨n, rfl⟩ := Int.eq_ofNat_of_zero_le h1
    refine ⟨fun hlt => ⟨⟨h1, hlt, hlt, h1, by omega, by omega⟩, fun _ x hx y hy => ?_⟩, fun hge => ?_⟩
    · have ha := getD_some (a := a) (n := n) (by omega)
      have hb := getD_some (a := b) (n := n) (by omega)
      rw [Int.toNat_natCast]
      refine ⟨fun hne => ?_, fun heq z hz => ?_⟩
      · show [0] = [if a = b then (1 : Int) else 0]
        rw [if_neg (fun e => hne (by rw [e]))]
      · rw [show IntKind.wrap .i64 ((n : Int) + 1) = (n : Int) + 1 from W_id ⟨by omega, by omega⟩] at hz
        subst hz
        refine ⟨hasI ⟨by omega, by omega⟩, ⟨by omega, by omega, h3, fun j hj => ?_⟩, ?_⟩
        · by_cases e : j = n
          · subst e; rw [ha, hb, heq]
          · exact h4 j (by omega)
        · show ((a.length : Int) - (n + 1)).toNat < ((a.length : Int) - n).toNat
          omega
    · show [1] = [if a = b then (1 : Int) else 0]
      rw [if_pos]
      refine List.ext_getElem? fun j => ?_
      by_cases hj : (j : Int) < n
      · exact h4 j hj
      · rw [List.getElem?_eq_none (by omega), List.getElem?_eq_none (by omega)]
theorem eq8T {y : Int} {a b : List Int} (hy : [y] = tb.outL 12 1 [] [a, b]) : y = if a = b then 1 else 0 := outL1 (F := eqF) (s := s12) rfl rfl rfl hy rfl (bool_has _)
def invD (_ : Nat) (ρ σ : Env) : Prop := match ρ.l, σ.i with
  | [a], [i] => 0 ≤ i ∧ i ≤ (a.length : Int) ∧ ∀ j : Nat, (j : Int) < i → -1 ≤ a.getD j 0 ∧ a.getD j 0 ≤ 1
  | _, _ => False
theorem getD_mem {a : List Int} {n : Nat} (h : n < a.length) : a.getD n 0 ∈ a := by
  rw [List.getD_eq_getElem?_getD, List.getElem?_eq_getElem h]; exact List.getElem_mem h
theorem digs_of {a : List Int} {n : Nat} (h : a.length ≤ n) (h4 : ∀ j : Nat, (j : Int) < n → -1 ≤ a.getD j 0 ∧ a.getD j 0 ≤ 1) : Digs a := fun x hx => by
  obtain ⟨j, hj, rfl⟩ := List.getElem_of_mem hx
  have := h4 j (by omega)
  rwa [List.getD_eq_getElem?_getD, List.getElem?_eq_getElem hj] at this
theorem cNo : CN 32 s32 := by
  refine k32 tb noI noM pr trivial trivial rfl trivial trivial (fun _ _ h _ => h) fun x hx hl _ => ?_
  simp only [p32, decide_eq_true_eq, decide_eq_false_iff_not]
  show (_ → [_] = [if -1 ≤ x ∧ x ≤ 1 then (0 : Int) else 1]) ∧ (_ → [1] = [if -1 ≤ x ∧ x ≤ 1 then (0 : Int) else 1])
  refine ⟨fun h => ?_, fun h => ?_⟩
  · by_cases h' : 1 < x
    · rw [if_pos h', if_neg (by omega)]
    · rw [if_neg h', if_pos (by omega)]
  · rw [if_neg (fun e => h e.1)]
theorem cIdx : CN 50 s50 := by
  refine k50 tb invD muEq pr ⟨rfl, trivial⟩ ⟨fun _ _ _ => trivial, trivial⟩ rfl ⟨cNo, trivial⟩ trivial (fun _ _ h _ => h) fun a hx hl _ => ?_
  have hlen : (a.length : Int) ≤ 9223372036854775807 := hl.1.2
  simp only [p50, decide_eq_true_eq, decide_eq_false_iff_not, Int.zero_add]
  refine ⟨⟨hasI ⟨by decide, by decide⟩, Int.le_refl _, by omega, fun j hj => by omega⟩, fun i hi hI => ?_⟩
  obtain ⟨h1, h2, h4⟩ : 0 ≤ i ∧ i ≤ (a.length : Int) ∧ ∀ j : Nat, (j : Int) < i → -1 ≤ a.getD j 0 ∧ a.getD j 0 ≤ 1 := hI
  obtain ⟨n, rfl⟩ := Int.eq_ofNat_of_zero_le h1
  rw [Int.toNat_natCast]
  have gd : ∀ j (hj : j < a.length), a.getD j 0 = a[j] := fun j hj => by rw [List.getD_eq_getElem?_getD, List.getElem?_eq_getElem hj]; rfl
  refine ⟨fun hlt => ⟨⟨h1, hlt⟩, fun _ => ⟨hlt, fun _ x hx y hy => ?_⟩⟩, fun hge => ?_⟩
  · have hy := outN (T := tb) (g := 32) (F := noF) rfl rfl rfl rfl hy (by
      refine ⟨?_, trivial⟩
      split <;> exact ⟨by decide, by decide⟩)
    simp only [noF, List.cons.injEq, and_true] at hy
    refine ⟨fun h => ?_, fun h => ?_⟩
    · have hb : ¬ (-1 ≤ x ∧ x ≤ 1) := fun e => by rw [if_pos e] at hy; omega
      show [(n : Int)] = [idx a]
      have : a.findIdx? (fun x => !decide (-1 ≤ x ∧ x ≤ 1)) = some n := by
        rw [List.findIdx?_eq_some_iff_getElem]
        refine ⟨by omega, ?_, fun j hj => ?_⟩
        · rw [← gd n (by omega), ← hx]; simp; omega
        · have := h4 j (by omega)
          rw [gd j (by omega)] at this
          simpa using this
      unfold idx
      rw [this]
    · have hg : -1 ≤ x ∧ x ≤ 1 := by
        apply Decidable.byContradiction
        intro e
        rw [if_neg e] at hy; exact h hy
      rw [show IntKind.wrap .i64 ((n : Int) + 1) = (n : Int) + 1 from W_id ⟨by omega, by omega⟩]
      refine ⟨hasI ⟨by omega, by omega⟩, ⟨by omega, by omega, fun j hj => ?_⟩, ?_⟩
      · by_cases e : j = n
        · subst e; rw [← hx]; exact hg
        · exact h4 j (by omega)
      · show ((a.length : Int) - (n + 1)).toNat < ((a.length : Int) - n).toNat
        omega
  · show [-1] = [idx a]
    have hd := digs_of (a := a) (n := n) (by omega) h4
    have : a.findIdx? (fun x => !decide (-1 ≤ x ∧ x ≤ 1)) = none := by
      rw [List.findIdx?_eq_none_iff]
      intro x hx
      simpa using hd x hx
    unfold idx
    rw [this]
theorem idx_neg (a : List Int) : 0 ≤ idx a ↔ ¬ Digs a := by
  unfold idx
  cases h : a.findIdx? (fun x => !decide (-1 ≤ x ∧ x ≤ 1)) with
  | none =>
    rw [List.findIdx?_eq_none_iff] at h
    have : Digs a := fun x hx => by simpa using h x hx
    simp [this]
  | some i =>
    rw [List.findIdx?_eq_some_iff_getElem] at h
    obtain ⟨hi, h1, _⟩ := h
    have : ¬ Digs a := fun e => by
      have := e _ (List.getElem_mem hi)
      simp [this] at h1
    simp [this]
theorem idx_has (a : List Int) (h : (a.length : Int) ≤ 9223372036854775807) : I64 (idx a) := by
  unfold idx
  cases e : a.findIdx? (fun x => !decide (-1 ≤ x ∧ x ≤ 1)) with
  | none => exact ⟨by decide, by decide⟩
  | some i =>
    rw [List.findIdx?_eq_some_iff_getElem] at e
    obtain ⟨hi, _, _⟩ := e
    exact ⟨by simp only; omega, by simp only; omega⟩
theorem cCon : CN 31 s31 := by
  refine k31 tb noI noM pr ⟨rfl, trivial⟩ ⟨fun _ _ _ => trivial, trivial⟩ rfl ⟨cIdx, trivial⟩ trivial (fun _ _ h _ => h) fun a hx hl _ => ?_
  simp only [p31, decide_eq_true_eq]
  intro y hy
  have hy := outL1 (F := idxF) (s := s50) rfl rfl rfl hy rfl (hasI (idx_has a hl.1.2))
  subst hy
  show [_] = [if Digs a then (0 : Int) else 1]
  by_cases h : Digs a
  · rw [if_pos h, if_neg (by rw [idx_neg]; simpa using h)]
  · rw [if_neg h, if_pos (by rw [idx_neg]; exact h)]
theorem conT {y : Int} {a : List Int} (hy : [y] = tb.outL 31 1 [] [a]) : y = 1 ↔ ¬ Digs a := by
  have := outL1 (F := conF) (s := s31) rfl rfl rfl hy (z := if Digs a then 0 else 1) rfl (by
    refine ⟨?_, trivial⟩
    split <;> exact ⟨by decide, by decide⟩)
  rw [this]; split <;> simp_all
end Go.Proofs.Ytpghmmklbhobmaa.Sx
