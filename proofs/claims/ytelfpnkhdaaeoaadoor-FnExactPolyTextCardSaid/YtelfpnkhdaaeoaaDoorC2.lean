/-
  Polynomials: the contracts.
-/
import Derived.Test.YtelfpnkhdaaeoaaDoorC0
namespace Go.Proofs.YtelfpnkhdaaeoaaDoor.Sx
open Go Go.RowKit
set_option linter.unusedVariables false
set_option linter.unusedSimpArgs false

theorem hasI {x : Int} (h : I64 x) : allHas [⟨-9223372036854775808, 9223372036854775807⟩] [x] := ⟨h, trivial⟩
theorem one01 {c : Prop} [Decidable c] {y : Int} (h : y = if c then 1 else 0) : y = 1 ↔ c := by
  rw [h]; split <;> simp_all
theorem out1 {g : Nat} {s : Sig} {F : LF} {xs : List Int} {ls : List (List Int)} {y z : Int} (h : tbZ.sig g = some s) (hl : tbZ.fl g = some F) (hn : (resKds s).length = 1) (hy : [y] = tbZ.outL g 1 xs ls) (hz : F xs ls = [z]) (hr : allHas ((resKds s).map Kd.iv) [z]) : y = z := by
  have := outP h hl hn hy (by rw [hz]; exact hr)
  rw [hz] at this
  simpa using this
theorem outZ {g : Nat} {s : Sig} {F : List Int → List Int} {n : Nat} {xs ys : List Int} (h : tbZ.sig g = some s) (hl : tbZ.fl g = none) (hF : tbZ.fn g = F) (hn : (resKds s).length = n) (hy : ys = tbZ.out g n xs) (hr : allHas ((resKds s).map Kd.iv) (F xs)) : ys = F xs := outN h hl hF hn hy hr
theorem zIn : CZ 13 s13 :=
  k13 tbZ noI noM prZ trivial trivial rfl trivial trivial (fun _ _ h _ => h) fun x a b _ _ _ => by
    simp only [p13, decide_eq_true_eq, decide_eq_false_iff_not]
    show (_ → [_] = [if a ≤ x ∧ x ≤ b then (1 : Int) else 0]) ∧ (_ → [0] = [if a ≤ x ∧ x ≤ b then (1 : Int) else 0])
    refine ⟨fun h => ?_, fun h => by rw [if_neg (fun e => h e.1)]⟩
    by_cases k : x ≤ b
    · rw [if_pos k, if_pos ⟨h, k⟩]
    · rw [if_neg k, if_neg (fun e => k e.2)]
theorem zWi : CZ 15 s15 :=
  k15 tbZ noI noM prZ trivial trivial rfl trivial trivial (fun _ _ h _ => h) fun x m _ _ _ => by
    simp only [p15, decide_eq_true_eq, decide_eq_false_iff_not]
    show (_ → [_] = [if W (0 - m) ≤ x ∧ x ≤ m then (1 : Int) else 0]) ∧ (_ → [0] = [if W (0 - m) ≤ x ∧ x ≤ m then (1 : Int) else 0])
    refine ⟨fun h => ?_, fun h => by rw [if_neg (fun e => h e.1)]⟩
    by_cases k : x ≤ m
    · rw [if_pos k, if_pos ⟨h, k⟩]
    · rw [if_neg k, if_neg (fun e => k e.2)]
theorem inT {x a b v : Int} (hv : [v] = tbZ.out 13 1 [x, a, b]) : v = if a ≤ x ∧ x ≤ b then 1 else 0 := by
  have hv := outZ (g := 13) (F := in3F) rfl rfl rfl rfl hv (bool_has _)
  simpa only [in3F, List.cons.injEq, and_true] using hv
theorem wiT {x m v : Int} (hv : [v] = tbZ.out 15 1 [x, m]) : v = if W (0 - m) ≤ x ∧ x ≤ m then 1 else 0 := by
  have hv := outZ (g := 15) (F := wiF) rfl rfl rfl rfl hv (bool_has _)
  simpa only [wiF, List.cons.injEq, and_true] using hv
def invEq (_ : Nat) (ρ σ : Env) : Prop := match ρ.l, σ.i with
  | [a, b], [i] => 0 ≤ i ∧ i ≤ (a.length : Int) ∧ a.length = b.length ∧ ∀ j : Nat, (j : Int) < i → a[j]? = b[j]?
  | _, _ => False
def muEq (_ : Nat) (ρ σ : Env) : Nat := match ρ.l, σ.i with
  | a :: _, [i] => ((a.length : Int) - i).toNat
  | _, _ => 0
theorem getD_some {a : List Int} {n : Nat} (h : n < a.length) : a[n]? = some (a.getD n 0) := by
  rw [List.getD_eq_getElem?_getD, List.getElem?_eq_getElem h]; rfl
theorem zEq : CZ 7 s7 := by
  refine k7 tbZ invEq muEq prZ trivial trivial rfl trivial trivial (fun _ _ h _ => h) fun a b hx hl _ => ?_
  have hlen : (a.length : Int) ≤ 9223372036854775807 := hl.1.2
  simp only [p7, decide_eq_true_eq, decide_eq_false_iff_not, Bool.not_eq_true', Bool.not_eq_false', Int.zero_add]
  show (_ → [0] = [if a = b then (1 : Int) else 0]) ∧ _
  refine ⟨fun h => ?_, fun h => ⟨⟨hasI ⟨by decide, by decide⟩, Int.le_refl _, by omega, by omega, fun j hj => by omega⟩, fun i hi hI => ?_⟩⟩
  · rw [if_neg (fun e => h (by rw [e]))]
  · obtain ⟨h1, h2, h3, h4⟩ : 0 ≤ i ∧ i ≤ (a.length : Int) ∧ a.length = b.length ∧ ∀ j : Nat, (j : Int) < i → a[j]? = b[j]? := hI
    obtain ⟨n, rfl⟩ := Int.eq_ofNat_of_zero_le h1
    refine ⟨fun hlt => ⟨⟨h1, hlt, hlt, h1, by omega, by omega⟩, fun _ x hx y hy => ?_⟩, fun hge => ?_⟩
    · have ha := getD_some (a := a) (n := n) (by omega)
      have hb := getD_some (a := b) (n := n) (by omega)
      rw [Int.toNat_natCast]
      refine ⟨fun hne => ?_, fun heq z hz => ?_⟩
      · show [0] = [if a = b then (1 : Int) else 0]
        rw [if_neg (fun e => hne (by rw [e]))]
      · rw [show IntKind.wrap .i64 ((n : Int) + 1) = (n : Int) + 1 from W_id ⟨by omega, by omega⟩] at hz
        subst hz
        refine ⟨hasI ⟨by omega, by omega⟩, ⟨by omega, by omega, h3, fun j hj => ?_⟩, ?_⟩
        · by_cases e : j = n
          · subst e; rw [ha, hb, heq]
          · exact h4 j (by omega)
        · show ((a.length : Int) - (n + 1)).toNat < ((a.length : Int) - n).toNat
          omega
    · show [1] = [if a = b then (1 : Int) else 0]
      rw [if_pos]
      refine List.ext_getElem? fun j => ?_
      by_cases hj : (j : Int) < n
      · exact h4 j hj
      · rw [List.getElem?_eq_none (by omega), List.getElem?_eq_none (by omega)]
theorem eqT {y : Int} {a b : List Int} (hy : [y] = tbZ.outL 7 1 [] [a, b]) : y = if a = b then 1 else 0 := out1 (F := eqF) (s := s7) rfl rfl rfl hy rfl (bool_has _)
def invP (_ : Nat) (ρ σ : Env) : Prop := match ρ.l, σ.i with
  | [l], [i] => 0 ≤ i ∧ i ≤ (l.length : Int) ∧ ∀ j : Nat, (j : Int) < i → In6 (l.getD j 0)
  | _, _ => False
theorem in6_next {l : List Int} {n : Nat} (h : ∀ j : Nat, (j : Int) < n → In6 (l.getD j 0)) (hn : In6 (l.getD n 0)) : ∀ j : Nat, (j : Int) < (n : Int) + 1 → In6 (l.getD j 0) := fun j hj => by
  by_cases e : j = n
  · subst e; exact hn
  · exact h j (by omega)
theorem zOk : CZ 8 s8 := by
  refine k8 tbZ invP muEq prZ (by exact ⟨rfl, trivial⟩) (by exact ⟨fun _ _ _ => trivial, trivial⟩) rfl (by exact ⟨zIn, trivial⟩) trivial (fun _ _ h _ => h) fun l hx hl _ => ?_
  have hlen : (l.length : Int) ≤ 9223372036854775807 := hl.1.2
  simp only [p8, decide_eq_true_eq, decide_eq_false_iff_not, Bool.not_eq_true', Bool.not_eq_false', Int.zero_add]
  have no : ¬ VP l → [0] = tbZ.app 8 [] [l] := fun h => by
    show [0] = [if VP l then (1 : Int) else 0]
    rw [if_neg h]
  have yes : VP l → [1] = tbZ.app 8 [] [l] := fun h => by
    show [1] = [if VP l then (1 : Int) else 0]
    rw [if_pos h]
  intro v0 hv0
  rw [one01 (inT hv0)]
  refine ⟨fun h1 => ⟨⟨by omega, by omega⟩, fun _ => ⟨by omega, fun _ v1 hv1 => ?_⟩⟩, fun h1 => no fun e => h1 e.1⟩
  rw [show (((l.length : Int) - 1).toNat) = l.length - 1 by omega] at hv1
  refine ⟨fun h2 => no fun e => e.2.2 (by rw [← hv1]; exact h2), fun h2 => ⟨⟨hasI ⟨by decide, by decide⟩, Int.le_refl _, by omega, fun j hj => by omega⟩, fun i hi hI => ?_⟩⟩
  obtain ⟨g1, g2, g4⟩ : 0 ≤ i ∧ i ≤ (l.length : Int) ∧ ∀ j : Nat, (j : Int) < i → In6 (l.getD j 0) := hI
  obtain ⟨n, rfl⟩ := Int.eq_ofNat_of_zero_le g1
  rw [Int.toNat_natCast]
  refine ⟨fun hlt => ⟨⟨g1, hlt⟩, fun _ => ⟨hlt, fun _ x hx v hv => ?_⟩⟩, fun hge => yes ⟨h1, fun j hj => g4 j (by omega), fun e => h2 (by rw [hv1]; exact e)⟩⟩
  subst hx
  rw [one01 (inT hv)]
  refine ⟨fun h3 => no fun e => h3 (e.2.1 n (by omega)), fun h3 z hz => ?_⟩
  rw [show IntKind.wrap .i64 ((n : Int) + 1) = (n : Int) + 1 from W_id ⟨by omega, by omega⟩] at hz
  subst hz
  refine ⟨hasI ⟨by omega, by omega⟩, ⟨by omega, by omega, in6_next g4 h3⟩, ?_⟩
  show ((l.length : Int) - (n + 1)).toNat < ((l.length : Int) - n).toNat
  omega
theorem okT {y : Int} {a : List Int} (hy : [y] = tbZ.outL 8 1 [] [a]) : y = if VP a then 1 else 0 := out1 (F := vpF) (s := s8) rfl rfl rfl hy rfl (bool_has _)
theorem zVP' : CZ 10 s10 := by
  refine k10 tbZ invP muEq prZ (by exact ⟨rfl, trivial⟩) (by exact ⟨fun _ _ _ => trivial, trivial⟩) rfl (by exact ⟨zWi, trivial⟩) trivial (fun _ _ h _ => h) fun l hx hl _ => ?_
  have hlen : (l.length : Int) ≤ 9223372036854775807 := hl.1.2
  simp only [p10, decide_eq_true_eq, decide_eq_false_iff_not, Bool.not_eq_true', Bool.not_eq_false', Int.zero_add]
  have no : ¬ VP l → [0] = tbZ.app 10 [] [l] := fun h => by
    show [0] = [if VP l then (1 : Int) else 0]
    rw [if_neg h]
  have post : ∀ x : Int, (x = if VP l then 1 else 0) → [x] = tbZ.app 10 [] [l] := fun x h => by rw [h]; rfl
  refine ⟨fun h0 => ⟨fun h1 => no fun e => by omega, fun h1 => ⟨⟨hasI ⟨by decide, by decide⟩, Int.le_refl _, by omega, fun j hj => by omega⟩, fun i hi hI => ?_⟩⟩, fun h0 => no fun e => h0 e.1.1⟩
  obtain ⟨g1, g2, g4⟩ : 0 ≤ i ∧ i ≤ (l.length : Int) ∧ ∀ j : Nat, (j : Int) < i → In6 (l.getD j 0) := hI
  obtain ⟨n, rfl⟩ := Int.eq_ofNat_of_zero_le g1
  rw [Int.toNat_natCast]
  have w6 : W (0 - 1000000) = -1000000 := (W_id (by omega)).trans (by omega)
  refine ⟨fun hlt => ⟨⟨g1, hlt⟩, fun _ => ⟨hlt, fun _ x hx v hv => ?_⟩⟩, fun hge => ⟨⟨by omega, by omega⟩, fun _ => ⟨by omega, fun _ x hx => post _ ?_⟩⟩⟩
  · subst hx
    have hv := wiT hv
    rw [w6] at hv
    rw [one01 hv]
    refine ⟨fun h3 => no fun e => h3 (e.2.1 n (by omega)), fun h3 => ?_⟩
    rw [show IntKind.wrap .i64 ((n : Int) + 1) = (n : Int) + 1 from W_id ⟨by omega, by omega⟩]
    refine ⟨hasI ⟨by omega, by omega⟩, ⟨by omega, by omega, in6_next g4 h3⟩, ?_⟩
    show ((l.length : Int) - (n + 1)).toNat < ((l.length : Int) - n).toNat
    omega
  · rw [show (((l.length : Int) - 1).toNat) = l.length - 1 by omega] at hx
    subst hx
    by_cases h2 : l.getD (l.length - 1) 0 = 0
    · rw [if_neg (by simpa using h2), if_neg fun e => e.2.2 h2]
    · rw [if_pos h2, if_pos ⟨⟨h0, by omega⟩, fun j hj => g4 j (by omega), h2⟩]
theorem vpT' {y : Int} {a : List Int} (hy : [y] = tbZ.outL 10 1 [] [a]) : y = if VP a then 1 else 0 := out1 (F := vpF) (s := s10) rfl rfl rfl hy rfl (bool_has _)
end Go.Proofs.YtelfpnkhdaaeoaaDoor.Sx
