/-
  Polynomials: validity, bounds, equality of lists.
-/
import Derived.Test.YtfpodondpanmaaaZ0
namespace Go.Proofs.Ytfpodondpanmaaa.Sx
open Go Go.RowKit
set_option linter.unusedVariables false
set_option linter.unusedSimpArgs false

def invEq (_ : Nat) (ρ σ : Env) : Prop := match ρ.l, σ.i with
  | [a, b], [i] => 0 ≤ i ∧ i ≤ (a.length : Int) ∧ a.length = b.length ∧ ∀ j : Nat, (j : Int) < i → a[j]? = b[j]?
  | _, _ => False
def muEq (_ : Nat) (ρ σ : Env) : Nat := match ρ.l, σ.i with
  | a :: _, [i] => ((a.length : Int) - i).toNat
  | _, _ => 0
theorem getD_some {a : List Int} {n : Nat} (h : n < a.length) : a[n]? = some (a.getD n 0) := by
  rw [List.getD_eq_getElem?_getD, List.getElem?_eq_getElem h]; rfl
theorem zEq : CZ 16 s16 := by
  refine k16 tbZ invEq muEq prZ trivial trivial rfl trivial trivial (fun _ _ h _ => h) fun a b hx hl _ => ?_
  have hlen : (a.length : Int) ≤ 9223372036854775807 := hl.1.2
  simp only [p16, decide_eq_true_eq, decide_eq_false_iff_not, Bool.not_eq_true', Bool.not_eq_false', Int.zero_add]
  show (_ → [0] = [if a = b then (1 : Int) else 0]) ∧ _
  refine ⟨fun h => ?_, fun h => ⟨⟨hasI ⟨by decide, by decide⟩, Int.le_refl _, by omega, by omega, fun j hj => by omega⟩, fun i hi hI => ?_⟩⟩
  · rw [if_neg (fun e => h (by rw [e]))]
  · obtain ⟨h1, h2, h3, h4⟩ : 0 ≤ i ∧ i ≤ (a.length : Int) ∧ a.length = b.length ∧ ∀ j : Nat, (j : Int) < i → a[j]? = b[j]? := hI
    obtain ⟨n, rfl⟩ := Int.eq_ofNat_of_zero_le h1
    refine ⟨fun hlt => ⟨⟨h1, hlt, hlt, h1, by omega, by omega⟩, fun _ x hx y hy => ?_⟩, fun hge => ?_⟩
    · have ha := getD_some (a := a) (n := n) (by omega)
      have hb := getD_some (a := b) (n := n) (by omega)
      rw [Int.toNat_natCast]
      refine ⟨fun hne => ?_, fun heq z hz => ?_⟩
      · show [0] = [if a = b then (1 : Int) else 0]
        rw [if_neg (fun e => hne (by rw [e]))]
      · rw [show IntKind.wrap .i64 ((n : Int) + 1) = (n : Int) + 1 from W_id ⟨by omega, by omega⟩] at hz
        subst hz
        refine ⟨hasI ⟨by omega, by omega⟩, ⟨by omega, by omega, h3, fun j hj => ?_⟩, ?_⟩
        · by_cases e : j = n
          · subst e; rw [ha, hb, heq]
          · exact h4 j (by omega)
        · show ((a.length : Int) - (n + 1)).toNat < ((a.length : Int) - n).toNat
          omega
    · show [1] = [if a = b then (1 : Int) else 0]
      rw [if_pos]
      refine List.ext_getElem? fun j => ?_
      by_cases hj : (j : Int) < n
      · exact h4 j hj
      · rw [List.getElem?_eq_none (by omega), List.getElem?_eq_none (by omega)]
theorem eqT {y : Int} {a b : List Int} (hy : [y] = tbZ.outL 16 1 [] [a, b]) : y = if a = b then 1 else 0 := out1 (F := eqF) (s := s16) rfl rfl rfl hy rfl (bool_has _)

/-! ### Validity -/
def invP (_ : Nat) (ρ σ : Env) : Prop := match ρ.l, σ.i with
  | [l], [i] => 0 ≤ i ∧ i ≤ (l.length : Int) ∧ ∀ j : Nat, (j : Int) < i → In6 (l.getD j 0)
  | _, _ => False
theorem in6_next {l : List Int} {n : Nat} (h : ∀ j : Nat, (j : Int) < n → In6 (l.getD j 0)) (hn : In6 (l.getD n 0)) : ∀ j : Nat, (j : Int) < (n : Int) + 1 → In6 (l.getD j 0) := fun j hj => by
  by_cases e : j = n
  · subst e; exact hn
  · exact h j (by omega)
theorem zOk : CZ 43 s43 := by
  refine k43 tbZ invP muEq prZ (by exact ⟨rfl, trivial⟩) (by exact ⟨fun _ _ _ => trivial, trivial⟩) rfl (by exact ⟨zIn, trivial⟩) trivial (fun _ _ h _ => h) fun l hx hl _ => ?_
  have hlen : (l.length : Int) ≤ 9223372036854775807 := hl.1.2
  simp only [p43, decide_eq_true_eq, decide_eq_false_iff_not, Bool.not_eq_true', Bool.not_eq_false', Int.zero_add]
  have no : ¬ VP l → [0] = tbZ.app 43 [] [l] := fun h => by
    show [0] = [if VP l then (1 : Int) else 0]
    rw [if_neg h]
  have yes : VP l → [1] = tbZ.app 43 [] [l] := fun h => by
    show [1] = [if VP l then (1 : Int) else 0]
    rw [if_pos h]
  intro v0 hv0
  rw [one01 (inT hv0)]
  refine ⟨fun h1 => ⟨⟨by omega, by omega⟩, fun _ => ⟨by omega, fun _ v1 hv1 => ?_⟩⟩, fun h1 => no fun e => h1 e.1⟩
  rw [show (((l.length : Int) - 1).toNat) = l.length - 1 by omega] at hv1
  refine ⟨fun h2 => no fun e => e.2.2 (by rw [← hv1]; exact h2), fun h2 => ⟨⟨hasI ⟨by decide, by decide⟩, Int.le_refl _, by omega, fun j hj => by omega⟩, fun i hi hI => ?_⟩⟩
  obtain ⟨g1, g2, g4⟩ : 0 ≤ i ∧ i ≤ (l.length : Int) ∧ ∀ j : Nat, (j : Int) < i → In6 (l.getD j 0) := hI
  obtain ⟨n, rfl⟩ := Int.eq_ofNat_of_zero_le g1
  rw [Int.toNat_natCast]
  refine ⟨fun hlt => ⟨⟨g1, hlt⟩, fun _ => ⟨hlt, fun _ x hx v hv => ?_⟩⟩, fun hge => yes ⟨h1, fun j hj => g4 j (by omega), fun e => h2 (by rw [hv1]; exact e)⟩⟩
  subst hx
  rw [one01 (inT hv)]
  refine ⟨fun h3 => no fun e => h3 (e.2.1 n (by omega)), fun h3 z hz => ?_⟩
  rw [show IntKind.wrap .i64 ((n : Int) + 1) = (n : Int) + 1 from W_id ⟨by omega, by omega⟩] at hz
  subst hz
  refine ⟨hasI ⟨by omega, by omega⟩, ⟨by omega, by omega, in6_next g4 h3⟩, ?_⟩
  show ((l.length : Int) - (n + 1)).toNat < ((l.length : Int) - n).toNat
  omega
theorem okT {y : Int} {a : List Int} (hy : [y] = tbZ.outL 43 1 [] [a]) : y = if VP a then 1 else 0 := out1 (F := vpF) (s := s43) rfl rfl rfl hy rfl (bool_has _)
theorem zVP : CZ 13 s13 := by
  refine k13 tbZ noI noM prZ (by exact ⟨rfl, trivial⟩) (by exact ⟨fun _ _ _ => trivial, trivial⟩) rfl (by exact ⟨zOk, trivial⟩) trivial (fun _ _ h _ => h) fun l hx hl _ => ?_
  simp only [p13]
  intro v hv
  rw [okT hv]; rfl
theorem zVP' : CZ 15 s15 := by
  refine k15 tbZ invP muEq prZ (by exact ⟨rfl, trivial⟩) (by exact ⟨fun _ _ _ => trivial, trivial⟩) rfl (by exact ⟨zWi, trivial⟩) trivial (fun _ _ h _ => h) fun l hx hl _ => ?_
  have hlen : (l.length : Int) ≤ 9223372036854775807 := hl.1.2
  simp only [p15, decide_eq_true_eq, decide_eq_false_iff_not, Bool.not_eq_true', Bool.not_eq_false', Int.zero_add]
  have no : ¬ VP l → [0] = tbZ.app 15 [] [l] := fun h => by
    show [0] = [if VP l then (1 : Int) else 0]
    rw [if_neg h]
  have post : ∀ x : Int, (x = if VP l then 1 else 0) → [x] = tbZ.app 15 [] [l] := fun x h => by rw [h]; rfl
  refine ⟨fun h0 => ⟨fun h1 => no fun e => by omega, fun h1 => ⟨⟨hasI ⟨by decide, by decide⟩, Int.le_refl _, by omega, fun j hj => by omega⟩, fun i hi hI => ?_⟩⟩, fun h0 => no fun e => h0 e.1.1⟩
  obtain ⟨g1, g2, g4⟩ : 0 ≤ i ∧ i ≤ (l.length : Int) ∧ ∀ j : Nat, (j : Int) < i → In6 (l.getD j 0) := hI
  obtain ⟨n, rfl⟩ := Int.eq_ofNat_of_zero_le g1
  rw [Int.toNat_natCast]
  have w6 : W (0 - 1000000) = -1000000 := (W_id (by omega)).trans (by omega)
  refine ⟨fun hlt => ⟨⟨g1, hlt⟩, fun _ => ⟨hlt, fun _ x hx v hv => ?_⟩⟩, fun hge => ⟨⟨by omega, by omega⟩, fun _ => ⟨by omega, fun _ x hx => post _ ?_⟩⟩⟩
  · subst hx
    have hv := wiT hv
    rw [w6] at hv
    rw [one01 hv]
    refine ⟨fun h3 => no fun e => h3 (e.2.1 n (by omega)), fun h3 => ?_⟩
    rw [show IntKind.wrap .i64 ((n : Int) + 1) = (n : Int) + 1 from W_id ⟨by omega, by omega⟩]
    refine ⟨hasI ⟨by omega, by omega⟩, ⟨by omega, by omega, in6_next g4 h3⟩, ?_⟩
    show ((l.length : Int) - (n + 1)).toNat < ((l.length : Int) - n).toNat
    omega
  · rw [show (((l.length : Int) - 1).toNat) = l.length - 1 by omega] at hx
    subst hx
    by_cases h2 : l.getD (l.length - 1) 0 = 0
    · rw [if_neg (by simpa using h2), if_neg fun e => e.2.2 h2]
    · rw [if_pos h2, if_pos ⟨⟨h0, by omega⟩, fun j hj => g4 j (by omega), h2⟩]
theorem vpT {y : Int} {a : List Int} (hy : [y] = tbZ.outL 13 1 [] [a]) : y = if VP a then 1 else 0 := out1 (F := vpF) (s := s13) rfl rfl rfl hy rfl (bool_has _)
theorem vpT' {y : Int} {a : List Int} (hy : [y] = tbZ.outL 15 1 [] [a]) : y = if VP a then 1 else 0 := out1 (F := vpF) (s := s15) rfl rfl rfl hy rfl (bool_has _)
theorem fPoly : CZ 3 s3 := by
  refine k3 tbZ noI noM prZ (by exact ⟨rfl, rfl, rfl, trivial⟩) (by exact ⟨fun _ _ _ => trivial, fun _ _ _ => trivial, fun _ _ _ => trivial, trivial⟩) rfl
    (by exact ⟨zVP, zVP', zEq, trivial⟩) (by exact ⟨toInt64S_cp, trivial⟩) (fun _ _ h _ => h) fun l hx hl _ => ?_
  simp only [p3, decide_eq_true_eq, decide_eq_false_iff_not, Bool.not_eq_true', Bool.not_eq_false']
  refine ⟨fun _ => rfl, fun hn => ?_⟩
  have g : (l.length : Int) ≤ 1099511627776 := by omega
  refine ⟨g, fun _ a ha => ⟨g, fun _ b hb => ?_⟩⟩
  have ha := vpT ha
  have hb := vpT' hb
  subst ha hb
  refine ⟨fun h => ?_, fun _ => ⟨g, fun _ r hr => ?_⟩⟩
  · simp at h
  · rw [one01 (eqT hr)]
    exact ⟨fun h => absurd rfl h, fun _ => rfl⟩

/-! ### Bounds -/
theorem absI_bd {x : Int} (h : In6 x) : 0 ≤ absI x ∧ absI x ≤ 1000000 := by unfold absI; split <;> omega
theorem mostA_bd {l : List Int} (h : ∀ i, i < l.length → In6 (l.getD i 0)) : ∀ n, n ≤ l.length → 0 ≤ mostA l n ∧ mostA l n ≤ 1000000
  | 0, _ => ⟨Int.le_refl _, by simp [mostA]⟩
  | n + 1, hn => by
    have h1 := mostA_bd h n (by omega)
    have h2 := absI_bd (h n (by omega))
    simp only [mostA]
    split <;> assumption
theorem leastM_bd (t o : Int) : ∀ (f m : Nat), (m : Int) ≤ leastM t o f m ∧ leastM t o f m ≤ (m : Int) + f
  | 0, m => by simp [leastM]
  | f + 1, m => by
    have := leastM_bd t o f (m + 1)
    simp only [leastM]
    split <;> omega
theorem leastM_step {t o : Int} {n : Nat} (hn : n ≤ 20) : leastM t o (21 - n) n = if t * (2 ^ n - 1) < o then leastM t o (21 - (n + 1)) (n + 1) else (n : Int) := by
  rw [show 21 - n = (20 - n) + 1 by omega, show 21 - (n + 1) = 20 - n by omega, leastM]
theorem powC {t : Int} {n : Nat} (hn : n ≤ 20) (ht : 0 ≤ t ∧ t ≤ 1000000) : IntKind.wrap .i64 (t * IntKind.wrap .i64 (IntKind.wrap .i64 (1 * 2 ^ n) - 1)) = t * (2 ^ n - 1) := by
  have e1 : (2 : Int) ^ n ≤ 1048576 := by
    have := Nat.pow_le_pow_right (n := 2) (by decide) hn
    have h : ((2 ^ n : Nat) : Int) ≤ ((2 ^ 20 : Nat) : Int) := by exact_mod_cast this
    simpa using h
  have e2 : 0 < (2 : Int) ^ n := Int.pow_pos (by decide)
  rw [Int.one_mul, W_id (x := 2 ^ n) ⟨by omega, by omega⟩, W_id (x := 2 ^ n - 1) ⟨by omega, by omega⟩]
  have h1 : t * (2 ^ n - 1) ≤ 1000000 * 1048575 := Int.mul_le_mul ht.2 (by omega) (by omega) (by decide)
  have h2 : 0 ≤ t * (2 ^ n - 1) := Int.mul_nonneg ht.1 (by omega)
  exact W_id ⟨by omega, by omega⟩
theorem no20 {t o : Int} {n : Nat} (hn : n ≤ 20) (ht : 1 ≤ t) (ho : o ≤ 1000000) (h : t * (2 ^ n - 1) < o) : n ≤ 19 := by
  rcases Nat.lt_or_ge n 20 with h' | h'
  · omega
  · have : n = 20 := by omega
    subst this
    have : 1 * (2 ^ 20 - 1) ≤ t * (2 ^ 20 - 1) := Int.mul_le_mul_of_nonneg_right ht (by decide)
    omega
def invB (k : Nat) (ρ σ : Env) : Prop := match k, ρ.l, σ.i with
  | 1, [l], [o, i] => 0 ≤ i ∧ i ≤ (l.length : Int) - 1 ∧ o = mostA l i.toNat
  | 2, [l], [m] => 0 ≤ m ∧ m ≤ 20 ∧ leastM (absI (l.getD (l.length - 1) 0)) (mostA l (l.length - 1)) (21 - m.toNat) m.toNat = bndV l
  | _, _, _ => False
def muB (k : Nat) (ρ σ : Env) : Nat := match k, ρ.l, σ.i with
  | 1, [l], [o, i] => ((l.length : Int) - i).toNat
  | 2, _, [m] => (21 - m).toNat
  | _, _, _ => 0
theorem abs_pos {l : List Int} (h : VP l) : 1 ≤ absI (l.getD (l.length - 1) 0) := by
  have := h.2.2
  unfold absI
  split <;> omega
theorem zBound : CZ 45 s45 := by
  refine k45 tbZ invB muB prZ (by exact ⟨rfl, rfl, trivial⟩) (by exact ⟨fun _ _ _ => trivial, fun _ _ _ => trivial, trivial⟩) rfl (by exact ⟨zAbs, zMax, trivial⟩) trivial (fun _ _ h _ => h) fun l hx hl hp => ?_
  have hV : VP l := hp
  have hlen := hV.1
  simp only [p45, decide_eq_true_eq, decide_eq_false_iff_not, Bool.not_eq_true', Bool.not_eq_false', Int.zero_add]
  refine ⟨⟨hasI2 ⟨by decide, by decide⟩ ⟨by decide, by decide⟩, Int.le_refl _, by omega, rfl⟩, fun o i hi hI => ?_⟩
  obtain ⟨g1, g2, g3⟩ : 0 ≤ i ∧ i ≤ (l.length : Int) - 1 ∧ o = mostA l i.toNat := hI
  obtain ⟨n, rfl⟩ := Int.eq_ofNat_of_zero_le g1
  rw [Int.toNat_natCast] at g3 ⊢
  have hw : IntKind.wrap .i64 ((n : Int) + 1) = ((n + 1 : Nat) : Int) := W_id ⟨by omega, by omega⟩
  rw [hw]
  refine ⟨fun hlt => ⟨⟨by omega, by omega⟩, fun _ => ⟨by omega, fun _ x hx v hv u hu z hz => ?_⟩⟩, fun hge => ?_⟩
  · subst hx hz
    have h6 := hV.2.1 n (by omega)
    have hb := absI_bd h6
    have hm := mostA_bd hV.2.1 n (by omega)
    rw [absT h6 hv] at hu
    have hu := maxT hi.1 ⟨by omega, by omega⟩ hu
    have e : u = mostA l (n + 1) := by
      rw [hu, g3]
      simp only [mostA]
      split <;> split <;> omega
    refine ⟨hasI2 ⟨by rw [hu]; split <;> omega, by rw [hu]; split <;> omega⟩ ⟨by omega, by omega⟩, ⟨by omega, by omega, by rw [Int.toNat_natCast]; exact e⟩, ?_⟩
    show ((l.length : Int) - ((n + 1 : Nat) : Int)).toNat < ((l.length : Int) - n).toNat
    omega
  · have hn : n = l.length - 1 := by omega
    subst hn
    have hm := mostA_bd hV.2.1 (l.length - 1) (by omega)
    have h6 := hV.2.1 (l.length - 1) (by omega)
    have hb := absI_bd h6
    have h1 := abs_pos hV
    refine ⟨⟨hasI ⟨by decide, by decide⟩, Int.le_refl _, by decide, rfl⟩, fun m hm' hI => ?_⟩
    obtain ⟨k1, k2, k3⟩ : 0 ≤ m ∧ m ≤ 20 ∧ leastM (absI (l.getD (l.length - 1) 0)) (mostA l (l.length - 1)) (21 - m.toNat) m.toNat = bndV l := hI
    obtain ⟨q, rfl⟩ := Int.eq_ofNat_of_zero_le k1
    rw [Int.toNat_natCast] at k3
    have hq : q ≤ 20 := by omega
    rw [leastM_step hq] at k3
    refine ⟨⟨by omega, by omega⟩, fun _ => ⟨by omega, fun _ x hx v hv => ?_⟩⟩
    rw [show (((l.length : Int) - 1).toNat) = l.length - 1 by omega] at hx
    subst hx
    have hv := absT h6 hv
    subst hv
    have hu : IntKind.wrap .u64 (q : Int) = q := wrap_id (k := .u64) ⟨by show (0 : Int) ≤ _; omega, by show _ ≤ (18446744073709551615 : Int); omega⟩
    rw [hu, if_pos (by omega), Int.toNat_natCast, powC hq hb, g3]
    refine ⟨fun hc z hz => ?_, fun hc => ?_⟩
    · rw [if_pos hc] at k3
      have h19 := no20 hq h1 hm.2 hc
      rw [show IntKind.wrap .i64 ((q : Int) + 1) = ((q + 1 : Nat) : Int) from W_id ⟨by omega, by omega⟩] at hz
      subst hz
      refine ⟨hasI ⟨by omega, by omega⟩, ⟨by omega, by omega, by rw [Int.toNat_natCast]; exact k3⟩, ?_⟩
      show (21 - ((q + 1 : Nat) : Int)).toNat < (21 - (q : Int)).toNat
      omega
    · rw [if_neg hc] at k3
      show [(q : Int)] = [bndV l]
      rw [k3]
theorem bndV_has (l : List Int) : I64 (bndV l) := by
  have := leastM_bd (absI (l.getD (l.length - 1) 0)) (mostA l (l.length - 1)) 21 0
  unfold bndV
  constructor <;> omega
theorem bndT {y : Int} {a : List Int} (hy : [y] = tbZ.outL 45 1 [] [a]) : y = bndV a := out1 (F := bndF) (s := s45) rfl rfl rfl hy rfl (hasI (bndV_has a))
theorem zBoundOf : CZ 17 s17 := by
  refine k17 tbZ noI noM prZ (by exact ⟨rfl, rfl, trivial⟩) (by exact ⟨fun _ _ _ => trivial, fun h => (by cases h), trivial⟩) rfl (by exact ⟨zOk, zBound, trivial⟩) trivial (fun _ _ h _ => h) fun l hx hl _ => ?_
  simp only [p17, decide_eq_true_eq, decide_eq_false_iff_not, Bool.not_eq_true', Bool.not_eq_false']
  intro v hv
  rw [one01 (okT hv)]
  refine ⟨fun h => ?_, fun h => ⟨h, fun _ u hu => ?_⟩⟩
  · show [0, 1] = if VP l then [bndV l, 0] else [0, 1]
    rw [if_neg h]
  · show [u, 0] = if VP l then [bndV l, 0] else [0, 1]
    rw [if_pos h, bndT hu]
theorem zBoundOf' : CZ 18 s18 := by
  refine k18 tbZ invB muB prZ (by exact ⟨rfl, trivial⟩) (by exact ⟨fun _ _ _ => trivial, trivial⟩) rfl (by exact ⟨zVP', trivial⟩) trivial (fun _ _ h _ => h) fun l hx hl _ => ?_
  simp only [p18, decide_eq_true_eq, decide_eq_false_iff_not, Bool.not_eq_true', Bool.not_eq_false', Int.zero_add]
  intro v hv
  rw [one01 (vpT' hv)]
  refine ⟨fun h => ?_, fun hV a ha => ?_⟩
  · show [0, 1] = if VP l then [bndV l, 0] else [0, 1]
    rw [if_neg h]
  have hlen := hV.1
  have hm := mostA_bd hV.2.1 (l.length - 1) (by omega)
  have h6 := hV.2.1 (l.length - 1) (by omega)
  have hb := absI_bd h6
  have h1 := abs_pos hV
  refine ⟨⟨by omega, by omega, by omega, by omega, by omega, by omega⟩, fun _ x hx y hy t ht => ⟨⟨by omega, by omega⟩, fun _ => ⟨⟨hasI2 ⟨by decide, by decide⟩ ⟨by decide, by decide⟩, Int.le_refl _, by omega, rfl⟩, fun o i hi hI => ?_⟩⟩⟩
  have ea : a.toNat = l.length - 1 := by omega
  rw [ea] at hx hy ht
  have et : t = absI (l.getD (l.length - 1) 0) := by
    rw [ht, W_id (x := 0 - l.getD (l.length - 1) 0) ⟨by omega, by omega⟩]
    unfold absI
    split <;> split <;> omega
  obtain ⟨g1, g2, g3⟩ : 0 ≤ i ∧ i ≤ (l.length : Int) - 1 ∧ o = mostA l i.toNat := hI
  obtain ⟨n, rfl⟩ := Int.eq_ofNat_of_zero_le g1
  rw [Int.toNat_natCast] at g3 ⊢
  refine ⟨fun hlt => ⟨⟨by omega, hlt, by omega⟩, fun _ => ⟨by omega, fun _ z hz u hu => ?_⟩⟩, fun hge => ?_⟩
  · have h6' := hV.2.1 n (by omega)
    have hm' := mostA_bd hV.2.1 n (by omega)
    subst hz
    have e : u = mostA l (n + 1) := by
      rw [hu, W_id (x := 0 - l.getD n 0) ⟨by omega, by omega⟩]
      simp only [mostA]
      rw [← g3] at hm' ⊢
      generalize l.getD n 0 = c at h6' ⊢
      unfold absI
      by_cases k1 : o < c
      · rw [if_pos k1]
        have : ¬ c < 0 := by omega
        rw [if_neg this, if_pos k1, if_neg (by omega)]
      · rw [if_neg k1]
        by_cases k2 : c < 0
        · rw [if_pos k2]
          by_cases k3 : o < 0 - c
          · rw [if_pos k3, if_pos (by omega)]; omega
          · rw [if_neg k3, if_neg (by omega)]
        · rw [if_neg k2, if_neg k1, if_neg (by omega)]
    have hm2 := mostA_bd hV.2.1 (n + 1) (by omega)
    rw [show IntKind.wrap .i64 ((n : Int) + 1) = ((n + 1 : Nat) : Int) from W_id ⟨by omega, by omega⟩]
    refine ⟨hasI2 ⟨by omega, by omega⟩ ⟨by omega, by omega⟩, ⟨by omega, by omega, by rw [Int.toNat_natCast]; exact e⟩, ?_⟩
    show ((l.length : Int) - ((n + 1 : Nat) : Int)).toNat < ((l.length : Int) - n).toNat
    omega
  · have hn : n = l.length - 1 := by omega
    subst hn
    refine ⟨⟨hasI ⟨by decide, by decide⟩, Int.le_refl _, by decide, rfl⟩, fun m hm' hI => ?_⟩
    obtain ⟨k1, k2, k3⟩ : 0 ≤ m ∧ m ≤ 20 ∧ leastM (absI (l.getD (l.length - 1) 0)) (mostA l (l.length - 1)) (21 - m.toNat) m.toNat = bndV l := hI
    obtain ⟨q, rfl⟩ := Int.eq_ofNat_of_zero_le k1
    rw [Int.toNat_natCast] at k3
    have hq : q ≤ 20 := by omega
    rw [leastM_step hq] at k3
    refine ⟨k1, fun _ => ?_⟩
    rw [if_pos (by omega), Int.toNat_natCast, et, powC hq hb, g3]
    refine ⟨fun hc z hz => ?_, fun hc => ?_⟩
    · rw [if_pos hc] at k3
      have h19 := no20 hq h1 hm.2 hc
      rw [show IntKind.wrap .i64 ((q : Int) + 1) = ((q + 1 : Nat) : Int) from W_id ⟨by omega, by omega⟩] at hz
      subst hz
      refine ⟨hasI ⟨by omega, by omega⟩, ⟨by omega, by omega, by rw [Int.toNat_natCast]; exact k3⟩, ?_⟩
      show (21 - ((q + 1 : Nat) : Int)).toNat < (21 - (q : Int)).toNat
      omega
    · rw [if_neg hc] at k3
      show [(q : Int), 0] = if VP l then [bndV l, 0] else [0, 1]
      rw [if_pos hV, k3]
theorem bndW_has (l : List Int) : allHas [⟨-9223372036854775808, 9223372036854775807⟩, ⟨-9223372036854775808, 9223372036854775807⟩] (bndWF [] [l]) := by
  show allHas _ (if VP l then [bndV l, 0] else [0, 1])
  split
  · exact hasI2 (bndV_has l) ⟨by decide, by decide⟩
  · exact hasI2 ⟨by decide, by decide⟩ ⟨by decide, by decide⟩
theorem fBound : CZ 4 s4 := by
  refine k4 tbZ noI noM prZ (by exact ⟨rfl, rfl, rfl, trivial⟩) (by exact ⟨fun _ _ _ => trivial, fun _ _ _ => trivial, fun _ _ _ => trivial, trivial⟩) rfl
    (by exact ⟨zBoundOf, zBoundOf', zEq, trivial⟩) (by exact ⟨toInt64S_cp, trivial⟩) (fun _ _ h _ => h) fun l hx hl _ => ?_
  simp only [p4, decide_eq_true_eq, decide_eq_false_iff_not, Bool.not_eq_true', Bool.not_eq_false']
  refine ⟨fun _ => rfl, fun hn => ?_⟩
  have g : (l.length : Int) ≤ 1099511627776 := by omega
  refine ⟨g, fun _ a b ha => ⟨g, fun _ c e hc => ?_⟩⟩
  have ha := outP (T := tbZ) (F := bndWF) (s := s17) rfl rfl rfl ha (bndW_has l)
  have hc := outP (T := tbZ) (F := bndWF) (s := s18) rfl rfl rfl hc (bndW_has l)
  rw [← ha] at hc
  simp only [List.cons.injEq, and_true] at hc
  obtain ⟨rfl, rfl⟩ := hc
  refine ⟨fun _ => ⟨fun h => absurd rfl h, fun _ => ⟨g, fun _ r hr => ?_⟩⟩, fun h => absurd rfl h⟩
  rw [one01 (eqT hr)]
  exact ⟨fun h => absurd rfl h, fun _ => rfl⟩
end Go.Proofs.Ytfpodondpanmaaa.Sx
