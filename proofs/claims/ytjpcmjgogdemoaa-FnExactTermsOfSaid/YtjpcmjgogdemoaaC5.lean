/-
  Neighbours of ratios: contracts of both programs' functions.
-/
import Derived.Test.YtjpcmjgogdemoaaC1
import Derived.Test.YtjpcmjgogdemoaaB3
import Derived.Test.YtjpcmjgogdemoaaM1
namespace Go.Proofs.Ytjpcmjgogdemoaa.Sx
open Go Go.RowKit
set_option linter.unusedVariables false
set_option linter.unusedSimpArgs false

theorem CT.moveN {P : Program} {T T' : Tab} {pre pre' : Nat → LQ} {g : Nat} {s : Sig} (h : CT P T.fns (presQ pre) g s) (hs : T'.sig g = T.sig g) (hf : ∀ xs ls, T'.app g xs ls = T.app g xs ls) (hp : ∀ xs ls, pre' g xs ls → pre g xs ls) (hll : T'.ll g = T.ll g := by rfl) : CT P T'.fns (presQ pre') g s := by
  intro w xs ls args hx hl ha hq
  have e : T'.fns g xs ls = T.fns g xs ls := by simp only [Tab.fns, hs, hf, hll]
  rw [e]
  exact h w xs ls args hx hl ha (hp xs ls hq)
theorem one1 {c : Prop} [Decidable c] {y : Int} (h : y = if c then 1 else 0) : y = 1 ↔ c := by
  rw [h]; split <;> simp_all

def idF (xs : List Int) : List Int := xs
abbrev Mo (m : Int) : Prop := 1 ≤ m ∧ m ≤ 100000
def mostF : List Int → List Int
  | [p, q, m] => [if VR p q then (if Mo m then 0 else 2) else 1]
  | _ => []
def flF : List Int → List Int
  | [a, b] => [a / b]
  | _ => []
def btF : List Int → List Int
  | [a, b, c, d] => [W (a + c), W (b + d)]
  | _ => []
noncomputable def beF : List Int → List Int
  | [p, q, m] => [(lowF p q m).1, (lowF p q m).2]
  | _ => []
noncomputable def abF : List Int → List Int
  | [p, q, m] => [-(lowF (-p) q m).1, (lowF (-p) q m).2]
  | _ => []
noncomputable def bsdF : List Int → List Int
  | [p, q, m, s] => ratF [-s * (lowF (-s * p) q m).1, (lowF (-s * p) q m).2]
  | _ => []
noncomputable def bfF : List Int → List Int
  | [p, q, m] => if VR p q then (if Mo m then ratF [(bestF p q m).1, (bestF p q m).2] else [0, 0, 2]) else [0, 0, 1]
  | _ => []
def nb2 (l h : List Int) : List Int := match l, h with
  | [a, b, e], [c, d, f] => if e = 0 ∧ f = 0 then [a, b, c, d, 0] else [0, 0, 0, 0, 3]
  | _, _ => []
noncomputable def nbF : List Int → List Int
  | [p, q, m] => if VR p q then (if Mo m then nb2 (ratF [(lowF p q m).1, (lowF p q m).2]) (ratF [-(lowF (-p) q m).1, (lowF (-p) q m).2]) else [0, 0, 0, 0, 2]) else [0, 0, 0, 0, 1]
  | _ => []
def preFl : LQ
  | [a, b], _ => 1 ≤ b
  | _, _ => False
def preBe : LQ
  | [p, q, m], _ => VR p q ∧ Mo m
  | _, _ => False
def preBs : LQ
  | [p, q, m, s], _ => VR p q ∧ Mo m ∧ (s = 1 ∨ s = -1)
  | _, _ => False
noncomputable def tblD : List (Nat × (List Int → List Int)) := [(36, idF), (87, vrF), (80, mostF), (83, mostF), (81, flF), (96, flF), (103, btF), (84, beF), (85, abF),
  (86, bsdF), (35, bfF), (37, bfF), (38, nbF), (39, nbF), (8, trueF), (9, trueF),
  (95, vrF), (89, in3F), (82, sizeF), (63, ratF), (67, mkRF), (20, eq2F)]
def sigsD : List (Nat × Sig) := [(36, s36), (87, s87), (80, s80), (83, s83), (81, s81), (96, s96), (103, s103), (84, s84), (85, s85),
  (86, s86), (35, s35), (37, s37), (38, s38), (39, s39), (8, s8), (9, s9),
  (95, s95), (89, s89), (82, s82), (63, s63), (67, s67), (20, s20)]
noncomputable def tbD : Tab := ⟨sigOf sigsD, lookU tblD (fun _ _ => []), fun _ => none, fun _ => none⟩
abbrev prD : Nat → LQ := lookQ [(81, preFl), (96, preFl), (84, preBe), (85, preBe), (86, preBs), (63, preMake)]
abbrev CD (g : Nat) (s : Sig) : Prop := CT Try.prog tbD.fns (presQ prD) g s

theorem dRat : CD 95 s95 := cRat.moveN rfl (fun _ _ => rfl) fun _ _ _ => trivial
theorem dIn3 : CD 89 s89 := cIn3.moveN rfl (fun _ _ => rfl) fun _ _ _ => trivial
theorem dSize : CD 82 s82 := cSize.moveN rfl (fun _ _ => rfl) fun _ _ _ => trivial
theorem dMake : CD 63 s63 := cMake.moveN rfl (fun _ _ => rfl) fun _ _ h => h
theorem dMakeR : CD 67 s67 := cMakeR.moveN rfl (fun _ _ => rfl) fun _ _ _ => trivial
theorem dEq2 : CD 20 s20 := cEq2.moveN rfl (fun _ _ => rfl) fun _ _ _ => trivial

theorem outD {g : Nat} {s : Sig} {F : List Int → List Int} {n : Nat} {xs ys : List Int} (h : tbD.sig g = some s) (hF : tbD.fn g = F) (hn : (resKds s).length = n) (hy : ys = tbD.out g n xs) (hr : allHas ((resKds s).map Kd.iv) (F xs)) : ys = F xs := outN h rfl hF hn hy hr
theorem vr_iff {p q a b c : Int} (h : [a, b, c] = mkRF [p, q]) : (c = 0 ∧ a = p ∧ b = q) ↔ VR p q := by
  simp only [mkRF] at h
  constructor
  · rintro ⟨rfl, rfl, rfl⟩
    split at h
    · split at h
      · simp at h
      · rename_i hin h0
        obtain ⟨x, y, e1, e2, h3, h4, h5, h6, h7, h8, h9, h10, h11⟩ := ratio_div (p := a) h0
        simp only [ratF] at h
        split at h
        · rename_i hk
          simp only [List.cons.injEq, and_true] at h
          rw [← h.1, ← h.2] at hk
          rw [h6] at h
          rw [← h.2] at e2 h3
          have s1 : sgn a b = 1 := by
            have : sgn a b * b = 1 * b := by omega
            exact Int.eq_of_mul_eq_mul_right h0 this
          rw [s1] at h10
          exact ⟨⟨by omega, hk.2⟩, hk.1, by simpa using h10.symm⟩
        · simp at h
    · simp at h
  · intro hv
    have e : sgn p q = 1 := by unfold sgn; rw [if_neg (by omega), hv.2.2]; rfl
    rw [if_pos ⟨by omega, by omega⟩, if_neg (by omega)] at h
    simp only [ratF, e, Int.tdiv_one] at h
    rw [if_pos ⟨hv.2.1, hv.1.2⟩] at h
    simp only [List.cons.injEq, and_true] at h
    exact ⟨h.2.2, h.1, h.2.1⟩
theorem dValidR : CD 87 s87 :=
  k87 tbD noI noM prD ⟨rfl, trivial⟩ ⟨fun _ _ _ => trivial, trivial⟩ rfl ⟨dMakeR, trivial⟩ trivial (fun _ _ h _ => h) fun p q hx _ _ => by
    unfold p87
    rw [show tbD.app 87 [p, q] [] = [if VR p q then 1 else 0] from rfl]
    intro a b c hc
    have hc := vr_iff (outD (g := 67) (F := mkRF) rfl rfl rfl hc mkR_has)
    refine ⟨fun h v hv => ?_, fun h => ?_⟩
    · rw [hv]
      by_cases k : VR p q
      · have := hc.2 k
        rw [if_pos k, if_pos (by simp [this.2.1, this.2.2])]
      · rw [if_neg k, if_neg]
        intro q
        simp at q
        exact k (hc.1 ⟨of_decide_eq_true h, q.1, q.2⟩)
    · rw [if_neg (fun k => of_decide_eq_false h (hc.2 k).1)]
theorem dvT {p q v : Int} (hv : [v] = tbD.out 87 1 [p, q]) : v = if VR p q then 1 else 0 := by
  have hv := outD (g := 87) (F := vrF) rfl rfl rfl hv (bool_has _)
  simpa only [vrF, List.cons.injEq, and_true] using hv
theorem drT {p q v : Int} (hv : [v] = tbD.out 95 1 [p, q]) : v = if VR p q then 1 else 0 := by
  have hv := outD (g := 95) (F := vrF) rfl rfl rfl hv (bool_has _)
  simpa only [vrF, List.cons.injEq, and_true] using hv
theorem diT {x a b v : Int} (hv : [v] = tbD.out 89 1 [x, a, b]) : v = if a ≤ x ∧ x ≤ b then 1 else 0 := by
  have hv := outD (g := 89) (F := in3F) rfl rfl rfl hv (bool_has _)
  simpa only [in3F, List.cons.injEq, and_true] using hv
theorem dMost : CD 80 s80 :=
  k80 tbD noI noM prD ⟨rfl, rfl, trivial⟩ ⟨fun _ _ _ => trivial, fun _ _ _ => trivial, trivial⟩ rfl ⟨dRat, dIn3, trivial⟩ trivial (fun _ _ h _ => h) fun p q m hx _ _ => by
    unfold p80
    rw [show tbD.app 80 [p, q, m] [] = [if VR p q then (if Mo m then 0 else 2) else 1] from rfl]
    simp only [Bool.not_eq_true', Bool.not_eq_false', decide_eq_true_eq, decide_eq_false_iff_not]
    intro v hv
    rw [one1 (drT hv)]
    refine ⟨fun h => by rw [if_neg h], fun h u hu => ?_⟩
    rw [one1 (diT hu), if_pos h]
    exact ⟨fun k => by rw [if_neg k], fun k => by rw [if_pos k]⟩
theorem dRef : CD 83 s83 :=
  k83 tbD noI noM prD ⟨rfl, trivial⟩ ⟨fun _ _ _ => trivial, trivial⟩ rfl ⟨dValidR, trivial⟩ trivial (fun _ _ h _ => h) fun p q m hx _ _ => by
    unfold p83
    rw [show tbD.app 83 [p, q, m] [] = [if VR p q then (if Mo m then 0 else 2) else 1] from rfl]
    simp only [Bool.not_eq_true', Bool.not_eq_false', decide_eq_true_eq, decide_eq_false_iff_not]
    intro v hv
    rw [one1 (dvT hv)]
    refine ⟨fun h => by rw [if_neg h], fun h => ?_⟩
    rw [if_pos h]
    exact ⟨fun k1 => ⟨fun k2 => by rw [if_neg (show ¬ Mo m by omega)], fun k2 => by rw [if_pos (show Mo m by omega)]⟩, fun k1 => by rw [if_neg (show ¬ Mo m by omega)]⟩
theorem most_has (p q m : Int) : I64 (if VR p q then (if Mo m then 0 else 2) else 1) := by
  split
  · split <;> decide
  · decide
theorem dmT {p q m v : Int} (hv : [v] = tbD.out 80 1 [p, q, m]) : v = if VR p q then (if Mo m then 0 else 2) else 1 := by
  have hv := outD (g := 80) (F := mostF) rfl rfl rfl hv ⟨most_has p q m, trivial⟩
  simpa only [mostF, List.cons.injEq, and_true] using hv
theorem dbT {p q m v : Int} (hv : [v] = tbD.out 83 1 [p, q, m]) : v = if VR p q then (if Mo m then 0 else 2) else 1 := by
  have hv := outD (g := 83) (F := mostF) rfl rfl rfl hv ⟨most_has p q m, trivial⟩
  simpa only [mostF, List.cons.injEq, and_true] using hv

/-! ### Floors -/
theorem neg_mul_le {a b : Int} (ha : a ≤ 0) (hb : 1 ≤ b) : a * b ≤ a := by
  have h := Int.mul_le_mul_of_nonneg_left hb (show 0 ≤ -a by omega)
  have e : -a * b = -(a * b) := Int.neg_mul a b
  omega
theorem fdiv_has {a b : Int} (ha : I64 a) (hb : 1 ≤ b) : I64 (a / b) := by
  by_cases h : 0 ≤ a
  · have := Int.ediv_nonneg h (show 0 ≤ b by omega)
    have := Int.ediv_le_self b h
    omega
  · have h1 : (a / b) * b ≤ a := Int.ediv_mul_le a (by omega)
    have h2 : a / b < 0 := Int.ediv_neg_of_neg_of_pos (by omega) (by omega)
    have h3 : a ≤ a / b := Int.le_ediv_of_mul_le (by omega) (neg_mul_le (by omega) hb)
    omega
theorem floor_eq {a b : Int} (hb : 1 ≤ b) : (¬ Int.tmod a b = 0 → ¬ (a < 0 ↔ b < 0) → Int.tdiv a b - 1 = a / b) ∧ (¬ Int.tmod a b = 0 → (a < 0 ↔ b < 0) → Int.tdiv a b = a / b) ∧ (Int.tmod a b = 0 → Int.tdiv a b = a / b) := by
  have hd := Int.mul_tdiv_add_tmod a b
  refine ⟨fun h k => ?_, fun h k => ?_, fun h => ?_⟩
  · have ha : a < 0 := by omega
    have h2 : -b < Int.tmod a b := Int.lt_tmod_of_pos a (by omega)
    have h3 : Int.tmod a b ≤ 0 := by
      have := Int.tmod_nonneg b (show 0 ≤ -a by omega)
      rw [Int.neg_tmod] at this
      omega
    have e : (Int.tdiv a b - 1) * b + (Int.tmod a b + b) = a := by grind
    symm
    rw [Int.ediv_eq_iff_of_pos (by omega)]
    have e2 : (Int.tdiv a b - 1 + 1) * b = (Int.tdiv a b - 1) * b + b := by grind
    omega
  · have ha : 0 ≤ a := by omega
    rw [Int.tdiv_eq_ediv_of_nonneg ha]
  · have e : a = b * Int.tdiv a b := by omega
    have h2 : b * Int.tdiv a b / b = Int.tdiv a b := Int.mul_ediv_cancel_left _ (by omega)
    rw [← e] at h2
    exact h2.symm
theorem dFl : CD 81 s81 :=
  k81 tbD noI noM prD trivial trivial rfl trivial trivial (fun _ _ h _ => h) fun a b hx _ hp => by
    have hb : 1 ≤ b := hp
    have ha : I64 a := hx.1
    unfold p81
    rw [show tbD.app 81 [a, b] [] = [a / b] from rfl]
    simp only [Bool.not_eq_true', Bool.not_eq_false', decide_eq_true_eq, decide_eq_false_iff_not]
    obtain ⟨f1, f2, f3⟩ := floor_eq (a := a) hb
    have hq := fdiv_has ha hb
    refine ⟨by omega, fun _ v hv => ⟨by omega, fun _ => ?_⟩⟩
    refine ⟨fun h1 => ⟨fun h2 u hu => ?_, fun h2 => ?_⟩, fun h1 => ?_⟩
    · have h2 : ¬ (a < 0 ↔ b < 0) := by simpa using h2
      have e := f1 h1 h2
      have : a < 0 := by omega
      have n0 : a / b < 0 := Int.ediv_neg_of_neg_of_pos (by omega) (by omega)
      rw [W_id (x := Int.tdiv a b) (by omega)] at hv
      rw [hv, e, W_id hq] at hu
      rw [hu]
    · have h2 : (a < 0 ↔ b < 0) := by simpa using h2
      rw [f2 h1 h2, W_id hq] at hv
      rw [hv]
    · rw [f3 h1, W_id hq] at hv
      rw [hv]
theorem dFl' : CD 96 s96 :=
  k96 tbD noI noM prD trivial trivial rfl trivial trivial (fun _ _ h _ => h) fun a b hx _ hp => by
    have hb : 1 ≤ b := hp
    have ha : I64 a := hx.1
    unfold p96
    rw [show tbD.app 96 [a, b] [] = [a / b] from rfl]
    simp only [Bool.not_eq_true', Bool.not_eq_false', decide_eq_true_eq, decide_eq_false_iff_not]
    obtain ⟨f1, f2, f3⟩ := floor_eq (a := a) hb
    have hq := fdiv_has ha hb
    refine ⟨by omega, fun _ v hv => ⟨by omega, fun _ => ?_⟩⟩
    refine ⟨fun h1 => ⟨fun h2 u hu => ?_, fun h2 => ?_⟩, fun h1 => ?_⟩
    · have h2 : ¬ (a < 0 ↔ b < 0) := by simpa using h2
      have e := f1 h1 h2
      have : a < 0 := by omega
      have n0 : a / b < 0 := Int.ediv_neg_of_neg_of_pos (by omega) (by omega)
      rw [W_id (x := Int.tdiv a b) (by omega)] at hv
      rw [hv, e, W_id hq] at hu
      rw [hu]
    · have h2 : (a < 0 ↔ b < 0) := by simpa using h2
      rw [f2 h1 h2, W_id hq] at hv
      rw [hv]
    · rw [f3 h1, W_id hq] at hv
      rw [hv]
theorem flT {a b v : Int} (ha : I64 a) (hb : 1 ≤ b) (hv : [v] = tbD.out 81 1 [a, b]) : v = a / b := by
  have hv := outD (g := 81) (F := flF) rfl rfl rfl hv ⟨fdiv_has ha hb, trivial⟩
  simpa only [flF, List.cons.injEq, and_true] using hv
theorem flU {a b v : Int} (ha : I64 a) (hb : 1 ≤ b) (hv : [v] = tbD.out 96 1 [a, b]) : v = a / b := by
  have hv := outD (g := 96) (F := flF) rfl rfl rfl hv ⟨fdiv_has ha hb, trivial⟩
  simpa only [flF, List.cons.injEq, and_true] using hv
theorem dBt : CD 103 s103 :=
  k103 tbD noI noM prD trivial trivial rfl trivial trivial (fun _ _ h _ => h) fun a b c d hx _ _ => by
    unfold p103
    rw [show tbD.app 103 [a, b, c, d] [] = [W (a + c), W (b + d)] from rfl]
    intro x hx y hy
    rw [hx, hy]
theorem btT {a b c d x y : Int} (hv : [x, y] = tbD.out 103 2 [a, b, c, d]) : x = W (a + c) ∧ y = W (b + d) := by
  have hv := outD (g := 103) (F := btF) rfl rfl rfl hv ⟨W_has _, W_has _, trivial⟩
  simpa only [btF, List.cons.injEq, and_true] using hv

/-! ### The walk -/
theorem start_far {P Q m : Int} (hv : VR P Q) (hm : Mo m) : Far P Q m (P - (P - 1) / Q * Q) (((P - 1) / Q + 1) * Q - P) ((P - 1) / Q) 1 ((P - 1) / Q + 1) 1 ∧ (-2147483649 ≤ (P - 1) / Q ∧ (P - 1) / Q ≤ 2147483648) := by
  have h1 := Int.mul_ediv_add_emod (P - 1) Q
  have h2 := Int.emod_nonneg (P - 1) (show Q ≠ 0 by omega)
  have h3 := Int.emod_lt_of_pos (P - 1) (show 0 < Q by omega)
  have c : Q * ((P - 1) / Q) = (P - 1) / Q * Q := Int.mul_comm _ _
  have e : ((P - 1) / Q + 1) * Q = (P - 1) / Q * Q + Q := by grind
  have hb : -2147483649 ≤ (P - 1) / Q ∧ (P - 1) / Q ≤ 2147483648 := by
    by_cases h : 0 ≤ P - 1
    · have := Int.ediv_nonneg h (show 0 ≤ Q by omega)
      have := Int.ediv_le_self Q h
      omega
    · have h4 : P - 1 ≤ (P - 1) / Q := Int.le_ediv_of_mul_le (by omega) (neg_mul_le (by omega) hv.1.1)
      have h5 : (P - 1) / Q < 0 := Int.ediv_neg_of_neg_of_pos (by omega) (by omega)
      omega
  refine ⟨⟨by omega, by omega, ⟨by omega, by omega, by omega⟩, ⟨by omega, by omega, by omega⟩, by omega, by omega⟩, hb⟩
def invF (_ : Nat) (ρ σ : Env) : Prop := match ρ.i, σ.i with
  | P :: Q :: m :: _, [u, o, a, b, c, d] => Far P Q m u o a b c d
  | _, _ => False
def muF (_ : Nat) (ρ σ : Env) : Nat := match ρ.i, σ.i with
  | _ :: _ :: m :: _, [_, _, _, b, _, d] => (2 * m - b - d).toNat
  | _, _ => 0
theorem hasI6 {a b c d e f : Int} (h : I64 a ∧ I64 b ∧ I64 c ∧ I64 d ∧ I64 e ∧ I64 f) : allHas [⟨-9223372036854775808, 9223372036854775807⟩, ⟨-9223372036854775808, 9223372036854775807⟩, ⟨-9223372036854775808, 9223372036854775807⟩, ⟨-9223372036854775808, 9223372036854775807⟩, ⟨-9223372036854775808, 9223372036854775807⟩, ⟨-9223372036854775808, 9223372036854775807⟩] [a, b, c, d, e, f] := ⟨h.1, h.2.1, h.2.2.1, h.2.2.2.1, h.2.2.2.2.1, h.2.2.2.2.2, trivial⟩
theorem Far.has {P Q m u o a b c d : Int} (hm : Mo m) (h : Far P Q m u o a b c d) : I64 u ∧ I64 o ∧ I64 a ∧ I64 b ∧ I64 c ∧ I64 d := by
  obtain ⟨h1, h2, ⟨h3, h4, h5⟩, ⟨h6, h7, h8⟩, h9, h10⟩ := h
  refine ⟨by omega, by omega, by omega, by omega, by omega, by omega⟩
theorem dBelow : CD 84 s84 :=
  k84 tbD invF muF prD (by exact ⟨rfl, rfl, trivial⟩) (by exact ⟨fun h => (by cases h), fun h => (by cases h), trivial⟩) rfl (by exact ⟨dFl', dBt, trivial⟩) trivial (fun _ _ h _ => h) fun P Q m hx _ hp => by
    obtain ⟨hv, hm⟩ : VR P Q ∧ Mo m := hp
    simp only [p84, decide_eq_true_eq, decide_eq_false_iff_not]
    rw [show tbD.app 84 [P, Q, m] [] = [(lowF P Q m).1, (lowF P Q m).2] from rfl]
    have w1 : IntKind.wrap .i64 (P - 1) = P - 1 := W_id (by omega)
    rw [w1]
    obtain ⟨f0, hb⟩ := start_far hv hm
    refine ⟨hv.1.1, fun _ k hk c0 hc0 u0 hu0 o0 ho0 => ?_⟩
    have hk := flU (by omega) hv.1.1 hk
    have f1 := f0
    obtain ⟨_, _, ⟨_, g1, g2⟩, ⟨_, g3, g4⟩, _, _⟩ := f1
    rw [← hk] at f0 hb g1 g2 g3 g4
    rw [W_id (x := k + 1) (by omega)] at hc0
    subst hc0
    rw [W_id (x := k * Q) (by omega), W_id (x := P - k * Q) (by omega)] at hu0
    rw [W_id (x := (k + 1) * Q) (by omega), W_id (x := (k + 1) * Q - P) (by omega)] at ho0
    subst hu0 ho0
    refine ⟨⟨hasI6 (f0.has hm), f0⟩, fun u o a b c d hi hI => ?_⟩
    have hI : Far P Q m u o a b c d := hI
    have hI' := hI
    obtain ⟨h1, h2, ⟨h3, h4, h5⟩, ⟨h6, h7, h8⟩, h9, h10⟩ := hI'
    rw [W_id (x := b + d) (by omega)]
    refine ⟨fun hs => ⟨fun hu => ⟨trivial, fun _ x y hxy z hz => ?_⟩, fun hu => ⟨trivial, fun _ x y hxy z hz => ?_⟩⟩, fun hs => ?_⟩
    · obtain ⟨e1, e2⟩ := btT hxy
      rw [show W (a + c) = a + c from W_id (by omega)] at e1
      rw [show W (b + d) = b + d from W_id (by omega)] at e2
      rw [W_id (by omega)] at hz
      subst e1 e2 hz
      have f2 := hI.low hs hu
      refine ⟨hasI6 (f2.has hm), f2, ?_⟩
      show (2 * m - (b + d) - d).toNat < (2 * m - b - d).toNat
      omega
    · obtain ⟨e1, e2⟩ := btT hxy
      rw [show W (a + c) = a + c from W_id (by omega)] at e1
      rw [show W (b + d) = b + d from W_id (by omega)] at e2
      rw [W_id (by omega)] at hz
      subst e1 e2 hz
      have f2 := hI.high hs hu
      refine ⟨hasI6 (f2.has hm), f2, ?_⟩
      show (2 * m - b - (b + d)).toNat < (2 * m - b - d).toNat
      omega
    · rw [low_eq (hI.done (by omega) hs)]
end Go.Proofs.Ytjpcmjgogdemoaa.Sx
