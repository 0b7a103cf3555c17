/-
  The terms of a ratio: functions that return a list.
-/
import Derived.Test.YtjpcmjgogdemoaaC4
import Derived.Test.YtjpcmjgogdemoaaC6
import Derived.Test.YtjpcmjgogdemoaaB4
namespace Go.Proofs.Ytjpcmjgogdemoaa.Sx
open Go Go.RowKit
set_option linter.unusedVariables false
set_option linter.unusedSimpArgs false

/-- The terms of p / q. -/
def termsW (p : Int) (q : Nat) : List Int := if h : q = 0 then [] else p / (q : Int) :: termsW q (p % (q : Int)).toNat
termination_by q
decreasing_by
  have := Int.emod_lt_of_pos p (show 0 < (q : Int) by omega)
  have := Int.emod_nonneg p (show (q : Int) ≠ 0 by omega)
  omega
theorem termsW_zero (p : Int) : termsW p 0 = [] := by rw [termsW]; simp
theorem termsW_pos (p : Int) {q : Nat} (h : 0 < q) : termsW p q = p / (q : Int) :: termsW q (p % (q : Int)).toNat := by
  rw [termsW, dif_neg (by omega)]
abbrev LT := List Int → List (List Int) → List Int × List (List Int)
def tofF (n : Int) : LT
  | [p, q], _ => if VR p q then (if VT (termsW p q.toNat) then ([0, 0], [termsW p q.toNat]) else ([n, 3], [[]])) else ([n, 1], [[]])
  | _, _ => ([], [])
def markL (k : Int) (l : List Int) : List Int := (List.range l.length).map fun i : Nat => k + (i : Int)
def markF : LT
  | [k], [l] => ([k + (l.length : Int)], [markL k l])
  | _, _ => ([], [])
def heldV (k : Int) (l : List Int) : Int := if ∀ j, j < l.length → l.getD j 0 = k + (j : Int) then k + (l.length : Int) else -1
def heldF : LF
  | [k], [l] => [heldV k l]
  | _, _ => []
def preMk : LQ
  | [k], [l] => k = 1 ∧ (l.length : Int) ≤ 1099511627776
  | _, _ => False
def lookT (l : List (Nat × LT)) : Nat → Option LT := match l with
  | [] => fun _ => none
  | (h, f) :: r => fun g => bif Nat.beq h g then some f else lookT r g
def tblE : List (Nat × (List Int → List Int)) := [(36, idF), (87, vrF), (95, vrF), (81, flF), (96, flF), (15, fun _ => [1])]
def tblEL : List (Nat × LF) := [(32, eqF), (75, vtF), (31, vtF), (58, heldF)]
def tblET : List (Nat × LT) := [(55, tofF 0), (56, tofF 1), (57, markF)]
def sigsE : List (Nat × Sig) := [(36, s36), (87, s87), (95, s95), (81, s81), (96, s96), (15, s15),
  (32, s32), (75, s75), (31, s31), (58, s58)]
def tbE : Tab := ⟨sigOf sigsE, lookU tblE (fun _ _ => []), lookL tblEL, lookT tblET⟩
abbrev prE : Nat → LQ := lookQ [(81, preFl), (96, preFl), (57, preMk), (58, preMk)]
abbrev CE (g : Nat) (s : Sig) : Prop := CT Try.prog tbE.fns (presQ prE) g s

theorem eRat : CE 95 s95 := cRat.moveN rfl (fun _ _ => rfl) fun _ _ _ => trivial
theorem eVR : CE 87 s87 := dValidR.moveN rfl (fun _ _ => rfl) fun _ _ _ => trivial
theorem eFl : CE 81 s81 := dFl.moveN rfl (fun _ _ => rfl) fun _ _ h => h
theorem eFl' : CE 96 s96 := dFl'.moveN rfl (fun _ _ => rfl) fun _ _ h => h
theorem eToR : CE 36 s36 := dToR.moveN rfl (fun _ _ => rfl) fun _ _ _ => trivial
theorem eTe : CE 75 s75 := cTerms.moveN rfl (fun _ _ => rfl) fun _ _ _ => trivial
theorem eVT : CE 31 s31 := cVT'.moveN rfl (fun _ _ => rfl) fun _ _ _ => trivial
theorem eEq : CE 32 s32 := cEq64S.moveN rfl (fun _ _ => rfl) fun _ _ _ => trivial

theorem outE {g : Nat} {s : Sig} {F : List Int → List Int} {n : Nat} {xs ys : List Int} (h : tbE.sig g = some s) (hl : tbE.fl g = none) (hF : tbE.fn g = F) (hn : (resKds s).length = n) (hy : ys = tbE.out g n xs) (hr : allHas ((resKds s).map Kd.iv) (F xs)) : ys = F xs := outN h hl hF hn hy hr
theorem outEL {g : Nat} {s : Sig} {F : LF} {xs : List Int} {ls : List (List Int)} {y z : Int} (h : tbE.sig g = some s) (hl : tbE.fl g = some F) (hn : (resKds s).length = 1) (hy : [y] = tbE.outL g 1 xs ls) (hz : F xs ls = [z]) (hr : allHas ((resKds s).map Kd.iv) [z]) : y = z := by
  have := outP h hl hn hy (by rw [hz]; exact hr)
  rw [hz] at this
  simpa using this
theorem evT {p q v : Int} (hv : [v] = tbE.out 87 1 [p, q]) : v = if VR p q then 1 else 0 := by
  have hv := outE (g := 87) (F := vrF) rfl rfl rfl rfl hv (bool_has _)
  simpa only [vrF, List.cons.injEq, and_true] using hv
theorem erT {p q v : Int} (hv : [v] = tbE.out 95 1 [p, q]) : v = if VR p q then 1 else 0 := by
  have hv := outE (g := 95) (F := vrF) rfl rfl rfl rfl hv (bool_has _)
  simpa only [vrF, List.cons.injEq, and_true] using hv
theorem efT {a b v : Int} (ha : I64 a) (hb : 1 ≤ b) (hv : [v] = tbE.out 81 1 [a, b]) : v = a / b := by
  have hv := outE (g := 81) (F := flF) rfl rfl rfl rfl hv (hasI (fdiv_has ha hb))
  simpa only [flF, List.cons.injEq, and_true] using hv
theorem efT' {a b v : Int} (ha : I64 a) (hb : 1 ≤ b) (hv : [v] = tbE.out 96 1 [a, b]) : v = a / b := by
  have hv := outE (g := 96) (F := flF) rfl rfl rfl rfl hv (hasI (fdiv_has ha hb))
  simpa only [flF, List.cons.injEq, and_true] using hv
theorem etT {y : Int} {a : List Int} (hy : [y] = tbE.outL 75 1 [] [a]) : y = if VT a then 1 else 0 := outEL (F := vtF) (s := s75) rfl rfl rfl hy rfl (bool_has _)
theorem etT' {y : Int} {a : List Int} (hy : [y] = tbE.outL 31 1 [] [a]) : y = if VT a then 1 else 0 := outEL (F := vtF) (s := s31) rfl rfl rfl hy rfl (bool_has _)
theorem eeT {y : Int} {a b : List Int} (hy : [y] = tbE.outL 32 1 [] [a, b]) : y = if a = b then 1 else 0 := outEL (F := eqF) (s := s32) rfl rfl rfl hy rfl (bool_has _)

theorem hasE2 {x y : Int} (h : I64 x) (k : I64 y) : allHas [⟨-9223372036854775808, 9223372036854775807⟩, ⟨-9223372036854775808, 9223372036854775807⟩] [x, y] := ⟨h, k, trivial⟩
/-! ### Loops -/
def invE (_ : Nat) (ρ σ : Env) : Prop := match ρ.i, σ.i, σ.l with
  | P :: Q :: _, [p, q], [l] => (0 ≤ q ∧ q ≤ 2147483648) ∧ (-2147483648 ≤ p ∧ p ≤ 2147483648) ∧ (l.length : Int) + q ≤ 2147483648 ∧ l ++ termsW p q.toNat = termsW P Q.toNat
  | _, _, _ => False
def muE (_ : Nat) (_ σ : Env) : Nat := match σ.i with
  | [_, q] => q.toNat
  | _ => 0
theorem step_eq {p q : Int} (hq : 1 ≤ q ∧ q ≤ 2147483648) (hp : -2147483648 ≤ p ∧ p ≤ 2147483648) : IntKind.wrap .i64 (p - IntKind.wrap .i64 (p / q * q)) = p % q ∧ 0 ≤ p % q ∧ p % q < q := by
  have h1 := Int.emod_nonneg p (show q ≠ 0 by omega)
  have h2 := Int.emod_lt_of_pos p (show 0 < q by omega)
  have h3 : p / q * q = p - p % q := by have := Int.mul_ediv_add_emod p q; rw [Int.mul_comm]; omega
  rw [h3, W_id (x := p - p % q) ⟨by omega, by omega⟩, W_id ⟨by omega, by omega⟩]
  exact ⟨by omega, h1, h2⟩
theorem terms_step {p q : Int} (hq : 1 ≤ q) (l : List Int) : l ++ [p / q] ++ termsW q (p % q).toNat = l ++ termsW p q.toNat := by
  rw [termsW_pos p (q := q.toNat) (by omega), Int.toNat_of_nonneg (by omega)]
  simp
theorem eTof : CTL Try.prog tbE.fns (presQ prE) 55 s55 := by
  refine k55 tbE invE muE prE (by exact ⟨rfl, rfl, rfl, trivial⟩) (by exact ⟨fun _ _ _ => trivial, fun h => (by cases h), fun _ _ _ => trivial, trivial⟩) (by exact ⟨eRat, eFl, eTe, trivial⟩) trivial (fun _ _ h _ => h) fun P Q hx hl _ => ?_
  simp only [p55, decide_eq_true_eq, decide_eq_false_iff_not, Bool.not_eq_true', Bool.not_eq_false', true_and, forall_const]
  have hres : tbE.fns 55 [P, Q] [] = tofF 0 [P, Q] [] := Tab.fns_ll rfl rfl _ _
  rw [hres]
  simp only [tofF]
  intro v hv
  rw [one01 (erT hv)]
  refine ⟨fun h => by rw [if_neg h], fun h => ?_⟩
  rw [if_pos h]
  have h31 := h.2.1
  refine ⟨⟨hx, ⟨by omega, by omega⟩, by omega, by simp; omega, rfl⟩, fun p q l hpq hll hI => ?_⟩
  obtain ⟨i1, i2, i3, i4⟩ : (0 ≤ q ∧ q ≤ 2147483648) ∧ (-2147483648 ≤ p ∧ p ≤ 2147483648) ∧ (l.length : Int) + q ≤ 2147483648 ∧ l ++ termsW p q.toNat = termsW P Q.toNat := hI
  refine ⟨fun hq => ?_, fun hq => ?_⟩
  · have hq1 : 1 ≤ q := by omega
    obtain ⟨s1, s2, s3⟩ := step_eq ⟨hq1, i1.2⟩ i2
    refine ⟨hq1, fun _ a ha => ?_⟩
    rw [efT hpq.1 hq1 ha]
    refine ⟨by simp; omega, fun _ b hb => ⟨by simp; omega, fun _ => ?_⟩⟩
    rw [s1] at hb
    subst hb
    refine ⟨hasE2 hpq.2.1 ⟨by omega, by omega⟩, ⟨⟨s2, by omega⟩, by omega, by simp; omega, by rw [terms_step hq1]; exact i4⟩, ?_⟩
    show (p % q).toNat < q.toNat
    omega
  · have hq0 : q = 0 := by omega
    subst hq0
    rw [show (0 : Int).toNat = 0 from rfl, termsW_zero, List.append_nil] at i4
    subst i4
    intro y hy
    rw [one01 (etT hy)]
    refine ⟨fun h => by rw [if_neg h], fun h => ?_⟩
    have h40 := h.1.2
    exact ⟨by omega, fun _ => by rw [if_pos h]⟩
theorem eTof' : CTL Try.prog tbE.fns (presQ prE) 56 s56 := by
  refine k56 tbE invE muE prE (by exact ⟨rfl, rfl, rfl, trivial⟩) (by exact ⟨fun _ _ _ => trivial, fun h => (by cases h), fun _ _ _ => trivial, trivial⟩) (by exact ⟨eVR, eFl', eVT, trivial⟩) trivial (fun _ _ h _ => h) fun P Q hx hl _ => ?_
  simp only [p56, decide_eq_true_eq, decide_eq_false_iff_not, Bool.not_eq_true', Bool.not_eq_false', true_and, forall_const]
  have hres : tbE.fns 56 [P, Q] [] = tofF 1 [P, Q] [] := Tab.fns_ll rfl rfl _ _
  rw [hres]
  simp only [tofF]
  intro v hv
  rw [one01 (evT hv)]
  refine ⟨fun h => by rw [if_neg h], fun h => ?_⟩
  rw [if_pos h]
  have h31 := h.2.1
  have hQ1 : 1 ≤ Q := h.1.1
  have hQ2 : Q ≤ 2147483648 := h.1.2
  refine ⟨fun _ => ⟨hQ1, fun _ a ha b hb => ?_⟩, fun h0 => by omega⟩
  rw [efT' hx.1 hQ1 ha] at hb ⊢
  obtain ⟨s1, s2, s3⟩ := step_eq ⟨hQ1, hQ2⟩ (p := P) (by omega)
  rw [s1] at hb
  subst hb
  refine ⟨⟨hasE2 hx.2.1 ⟨by omega, by omega⟩, ⟨s2, by omega⟩, by omega, by simp; omega, terms_step hQ1 []⟩, fun p q l hpq hll hI => ?_⟩
  obtain ⟨i1, i2, i3, i4⟩ : (0 ≤ q ∧ q ≤ 2147483648) ∧ (-2147483648 ≤ p ∧ p ≤ 2147483648) ∧ (l.length : Int) + q ≤ 2147483648 ∧ l ++ termsW p q.toNat = termsW P Q.toNat := hI
  refine ⟨fun hq => ?_, fun hq => ?_⟩
  · have hq1 : 1 ≤ q := by omega
    obtain ⟨s1, s2, s3⟩ := step_eq ⟨hq1, i1.2⟩ i2
    refine ⟨hq1, fun _ a ha => ?_⟩
    rw [efT' hpq.1 hq1 ha]
    refine ⟨by simp; omega, fun _ b hb => ⟨by simp; omega, fun _ => ?_⟩⟩
    rw [s1] at hb
    subst hb
    refine ⟨hasE2 hpq.2.1 ⟨by omega, by omega⟩, ⟨⟨s2, by omega⟩, by omega, by simp; omega, by rw [terms_step hq1]; exact i4⟩, ?_⟩
    show (p % q).toNat < q.toNat
    omega
  · have hq0 : q = 0 := by omega
    subst hq0
    rw [show (0 : Int).toNat = 0 from rfl, termsW_zero, List.append_nil] at i4
    subst i4
    intro y hy
    rw [one01 (etT' hy)]
    refine ⟨fun h => by rw [if_neg h], fun h => ?_⟩
    have h40 := h.1.2
    exact ⟨by omega, fun _ => by rw [if_pos h]⟩

/-! ### Marks -/
def invM (_ : Nat) (ρ σ : Env) : Prop := match ρ.i, ρ.l, σ.i, σ.l with
  | [k], [l], [m, i], [o] => (0 ≤ i ∧ i ≤ (l.length : Int)) ∧ m = k + i ∧ o.length = l.length ∧ ∀ j : Nat, (j : Int) < i → o[j]? = some (k + (j : Int))
  | [k], [l], [m, i], [] => (0 ≤ i ∧ i ≤ (l.length : Int)) ∧ m = k + i ∧ ∀ j : Nat, (j : Int) < i → l.getD j 0 = k + (j : Int)
  | _, _, _, _ => False
def muM (_ : Nat) (ρ σ : Env) : Nat := match ρ.l, σ.i with
  | [l], [_, i] => ((l.length : Int) - i).toNat
  | _, _ => 0
theorem eMark : CTW Try.prog tbE.fns (presQ prE) 57 s57 := by
  refine k57 tbE invM muM prE trivial trivial trivial trivial (fun _ _ h _ => h) (fun k l hx hl hp => ?_) fun k hx hp => ?_
  · have hres : tbE.fns 57 [k] [l] = markF [k] [l] := Tab.fns_ll rfl rfl _ _
    obtain ⟨rfl, hlen⟩ : k = 1 ∧ (l.length : Int) ≤ 1099511627776 := hp
    simp only [p57, decide_eq_true_eq, decide_eq_false_iff_not, Bool.not_eq_true', Bool.not_eq_false', Int.zero_add]
    rw [hres]
    refine ⟨⟨hasE2 hx.1 ⟨by decide, by decide⟩, ⟨by omega, by omega⟩, by omega, rfl, fun j hj => by omega⟩, fun m i o hmi ho hI => ?_⟩
    obtain ⟨⟨i1, i2⟩, i3, i4, i5⟩ : (0 ≤ i ∧ i ≤ (l.length : Int)) ∧ m = 1 + i ∧ o.length = l.length ∧ ∀ j : Nat, (j : Int) < i → o[j]? = some (1 + (j : Int)) := hI
    refine ⟨fun hlt => ⟨by omega, fun _ => ⟨by omega, fun _ a ha b hb => ?_⟩⟩, fun hge => ⟨by omega, fun _ => ?_⟩⟩
    · rw [W_id ⟨by omega, by omega⟩] at ha hb
      subst ha hb
      refine ⟨hasE2 ⟨by omega, by omega⟩ ⟨by omega, by omega⟩, ⟨⟨by omega, by omega⟩, by omega, by simp [i4], fun j hj => ?_⟩, ?_⟩
      · rw [List.getElem?_set]
        by_cases e : i.toNat = j
        · rw [if_pos e, if_pos (by omega), i3]
          congr 1; omega
        · rw [if_neg e]
          exact i5 j (by omega)
      · show ((l.length : Int) - (i + 1)).toNat < ((l.length : Int) - i).toNat
        omega
    · have hi : i = l.length := by omega
      have e : markL 1 l = o := by
        refine List.ext_getElem? fun j => ?_
        by_cases hj : j < l.length
        · rw [i5 j (by omega)]
          simp [markL, hj]
        · rw [List.getElem?_eq_none (by simp [markL]; omega), List.getElem?_eq_none (by omega)]
      simp only [markF, e, i3, hi]
  · have hres : tbE.fns 57 [k] [[]] = markF [k] [[]] := Tab.fns_ll rfl rfl _ _
    simp only [r57]
    rw [hres]
    simp [markF, markL]
theorem eHeld : CE 58 s58 := by
  refine k58 tbE invM muM prE trivial trivial rfl trivial trivial (fun _ _ h _ => h) fun k l hx hl hp => ?_
  obtain ⟨rfl, hlen⟩ : k = 1 ∧ (l.length : Int) ≤ 1099511627776 := hp
  simp only [p58, decide_eq_true_eq, decide_eq_false_iff_not, Bool.not_eq_true', Bool.not_eq_false', Int.zero_add]
  rw [show tbE.app 58 [1] [l] = [heldV 1 l] from rfl]
  refine ⟨⟨hasE2 hx.1 ⟨by decide, by decide⟩, ⟨by omega, by omega⟩, by omega, fun j hj => by omega⟩, fun m i hmi hI => ?_⟩
  obtain ⟨⟨i1, i2⟩, i3, i5⟩ : (0 ≤ i ∧ i ≤ (l.length : Int)) ∧ m = 1 + i ∧ ∀ j : Nat, (j : Int) < i → l.getD j 0 = 1 + (j : Int) := hI
  refine ⟨fun hlt => ⟨by omega, fun _ => ⟨by omega, fun _ x hx' => ⟨fun hne => ?_, fun heq a ha b hb => ?_⟩⟩⟩, fun hge => ?_⟩
  · unfold heldV
    rw [if_neg]
    intro h
    have := h i.toNat (by omega)
    omega
  · rw [W_id ⟨by omega, by omega⟩] at ha hb
    subst ha hb
    refine ⟨hasE2 ⟨by omega, by omega⟩ ⟨by omega, by omega⟩, ⟨⟨by omega, by omega⟩, by omega, fun j hj => ?_⟩, ?_⟩
    · by_cases e : j = i.toNat
      · subst e; omega
      · exact i5 j (by omega)
    · show ((l.length : Int) - (i + 1)).toNat < ((l.length : Int) - i).toNat
      omega
  · unfold heldV
    rw [if_pos fun j hj => i5 j (by omega), i3]
    congr 1; omega
end Go.Proofs.Ytjpcmjgogdemoaa.Sx
