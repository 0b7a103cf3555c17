/-
  The ratio at the end of a path: both sides.
-/
import Derived.Test.YtlgccppfjclncaaDoorU3
namespace Go.Proofs.YtlgccppfjclncaaDoor.Sx
open Go Go.RowKit
set_option linter.unusedVariables false
set_option linter.unusedSimpArgs false

/-- On the way: the place, the bounds, what is left. -/
structure Way (l : List Int) (i a b c d : Int) : Prop where
  i0 : 0 ≤ i
  i1 : i ≤ l.length
  a0 : 0 ≤ a
  b0 : 1 ≤ b
  c0 : 1 ≤ c
  d0 : 0 ≤ d
  p : a + c ≤ 2147483648
  q : b + d ≤ 2147483648
  det : b * (a + c) - a * (b + d) = 1
  rest : sbW a b c d (l.drop i.toNat) = sbW 0 1 1 0 l
theorem Way.start (l : List Int) : Way l 0 0 1 1 0 := ⟨by omega, by omega, by omega, by omega, by omega, by omega, by omega, by omega, by omega, rfl⟩
theorem det_gcd {p q x y : Int} (h : x * p - y * q = 1) : Int.gcd p q = 1 := by
  have h1 : ((Int.gcd p q : Nat) : Int) ∣ 1 := by
    rw [← h]
    exact Int.dvd_sub (Int.dvd_mul_of_dvd_right (Int.gcd_dvd_left ..)) (Int.dvd_mul_of_dvd_right (Int.gcd_dvd_right ..))
  have := Int.le_of_dvd (by omega) h1
  have h0 : Int.gcd p q ≠ 0 := fun e => by rw [e] at h1; simp at h1
  omega
theorem Way.vr {l : List Int} {i a b c d : Int} (h : Way l i a b c d) : VR (a + c) (b + d) := by
  obtain ⟨_, _, a0, b0, c0, d0, p, q, det, _⟩ := h
  exact ⟨⟨by omega, q⟩, by omega, det_gcd det⟩
theorem vr_iff {x y p q : Int} (hp : 1 ≤ p) (hq : 1 ≤ q) (h : x * p - y * q = 1) : VR p q ↔ p ≤ 2147483648 ∧ q ≤ 2147483648 :=
  ⟨fun k => ⟨k.2.1.2, k.1.2⟩, fun k => ⟨⟨hq, k.2⟩, ⟨by omega, k.1⟩, det_gcd h⟩⟩
theorem drop_at {l : List Int} {i : Int} (h0 : 0 ≤ i) (h1 : i < l.length) : l.drop i.toNat = l.getD i.toNat 0 :: l.drop (i + 1).toNat := by
  have hi : i.toNat < l.length := by omega
  have e : (i + 1).toNat = i.toNat + 1 := by omega
  rw [e, List.drop_eq_getElem_cons hi, List.getD_eq_getElem?_getD, List.getElem?_eq_getElem hi]
  rfl
theorem Way.stepL {l : List Int} {i a b c d : Int} (h : Way l i a b c d) (hi : i < l.length) (hx : l.getD i.toNat 0 = 76) :
    (a + (a + c) ≤ 2147483648 ∧ b + (b + d) ≤ 2147483648 → Way l (i + 1) a b (a + c) (b + d)) ∧ (¬ (a + (a + c) ≤ 2147483648 ∧ b + (b + d) ≤ 2147483648) → [0, 0, 3] = sbW 0 1 1 0 l) := by
  obtain ⟨i0, i1, a0, b0, c0, d0, p, q, det, rest⟩ := h
  rw [drop_at i0 hi, hx] at rest
  simp only [sbW] at rest
  rw [if_pos trivial] at rest
  refine ⟨fun k => ⟨by omega, by omega, a0, b0, by omega, by omega, k.1, k.2, ?_, ?_⟩, fun k => ?_⟩
  · rw [Int.mul_add, Int.mul_add a, Int.mul_comm a b]; omega
  · rw [if_pos k] at rest; exact rest
  · rw [if_neg k] at rest; exact rest
theorem Way.stepR {l : List Int} {i a b c d : Int} (h : Way l i a b c d) (hi : i < l.length) (hx : ¬ l.getD i.toNat 0 = 76) :
    ((a + c) + c ≤ 2147483648 ∧ (b + d) + d ≤ 2147483648 → Way l (i + 1) (a + c) (b + d) c d) ∧ (¬ ((a + c) + c ≤ 2147483648 ∧ (b + d) + d ≤ 2147483648) → [0, 0, 3] = sbW 0 1 1 0 l) := by
  obtain ⟨i0, i1, a0, b0, c0, d0, p, q, det, rest⟩ := h
  rw [drop_at i0 hi] at rest
  simp only [sbW] at rest
  rw [if_neg hx] at rest
  refine ⟨fun k => ⟨by omega, by omega, by omega, by omega, c0, d0, k.1, k.2, ?_, ?_⟩, fun k => ?_⟩
  · have e1 : b * (a + c) = b * a + b * c := Int.mul_add ..
    have e2 : a * (b + d) = a * b + a * d := Int.mul_add ..
    have e3 : (b + d) * (a + c + c) = b * a + b * c + b * c + (d * a + d * c + d * c) := by rw [Int.add_mul, Int.mul_add, Int.mul_add, Int.mul_add, Int.mul_add]
    have e4 : (a + c) * (b + d + d) = a * b + a * d + a * d + (c * b + c * d + c * d) := by rw [Int.add_mul, Int.mul_add, Int.mul_add, Int.mul_add, Int.mul_add]
    rw [e3, e4]
    rw [e1, e2] at det
    have f1 := Int.mul_comm a b
    have f2 := Int.mul_comm a d
    have f3 := Int.mul_comm c b
    have f4 := Int.mul_comm c d
    omega
  · rw [if_pos k] at rest; exact rest
  · rw [if_neg k] at rest; exact rest
theorem Way.fin {l : List Int} {i a b c d : Int} (h : Way l i a b c d) (hi : ¬ i < l.length) : [a + c, b + d, 0] = sbW 0 1 1 0 l := by
  have e : l.drop i.toNat = [] := List.drop_eq_nil_iff.2 (by have := h.i0; omega)
  have := h.rest
  rw [e] at this
  exact this
def wI : Nat → Env → Env → Prop := fun k pre ys => match k, pre.l, ys.i with
  | 1, [l, _], [i, a, b, c, d] => Way l i a b c d
  | 1, [l], [i] => 0 ≤ i ∧ i ≤ l.length ∧ ∀ j : Nat, (j : Int) < i → l.getD j 0 = 76 ∨ l.getD j 0 = 82
  | 2, [l], [i, a, b, c, d, p, q] => Way l i a b c d ∧ p = a + c ∧ q = b + d
  | _, _, _ => False
def wM : Nat → Env → Env → Nat := fun _ pre ys => (pre.l.headD []).length - (ys.i.headD 0).toNat
theorem lr_iff {l : List Int} : LRs l ↔ ∀ j : Nat, (j : Int) < l.length → l.getD j 0 = 76 ∨ l.getD j 0 = 82 := by
  constructor
  · intro h j hj
    have hj : j < l.length := by omega
    rw [List.getD_eq_getElem?_getD, List.getElem?_eq_getElem hj]
    exact h _ (List.getElem_mem hj)
  · intro h x hx
    obtain ⟨j, hj, rfl⟩ := List.mem_iff_getElem.1 hx
    have := h j (by omega)
    rw [List.getD_eq_getElem?_getD, List.getElem?_eq_getElem hj] at this
    exact this
theorem i5 {a b c d e : Int} (h1 : I64 a) (h2 : I64 b) (h3 : I64 c) (h4 : I64 d) (h5 : I64 e) : allHas [i64, i64, i64, i64, i64] [a, b, c, d, e] := ⟨h1, h2, h3, h4, h5, trivial⟩
theorem i7 {a b c d e f g : Int} (h1 : I64 a) (h2 : I64 b) (h3 : I64 c) (h4 : I64 d) (h5 : I64 e) (h6 : I64 f) (h7 : I64 g) : allHas [i64, i64, i64, i64, i64, i64, i64] [a, b, c, d, e, f, g] := ⟨h1, h2, h3, h4, h5, h6, h7, trivial⟩
theorem Way.bd {l : List Int} {i a b c d : Int} (h : Way l i a b c d) (hl : (l.length : Int) ≤ 200) : (0 ≤ i ∧ i ≤ 200) ∧ (0 ≤ a ∧ a ≤ 2147483648) ∧ (0 ≤ b ∧ b ≤ 2147483648) ∧ (0 ≤ c ∧ c ≤ 2147483648) ∧ (0 ≤ d ∧ d ≤ 2147483648) := by
  obtain ⟨i0, i1, a0, b0, c0, d0, p, q, _, _⟩ := h
  omega
theorem behE (a b c d x : Int) (hx : allHas [i64, i64, i64, i64] [a, b, c, d]) (P : Int → Int → Int → Int → Prop) : (∀ v u s t : Int, [v, u, s, t] = tbC.out 9 4 [a, b, c, d, x] → P v u s t) ↔
    ((x = 76 → P a b (W (a + c)) (W (b + d))) ∧ (¬ x = 76 → P (W (a + c)) (W (b + d)) c d)) := by
  have e : tbC.out 9 4 [a, b, c, d, x] = behF [a, b, c, d, x] := outN (T := tbC) (g := 9) (s := s9) (F := behF) rfl rfl rfl rfl rfl (beh_has hx)
  rw [e]
  simp only [behF]
  constructor
  · intro h
    exact ⟨fun k => h _ _ _ _ (by rw [if_pos k]), fun k => h _ _ _ _ (by rw [if_neg k])⟩
  · rintro ⟨h1, h2⟩ v u s t hv
    split at hv
    · rename_i k
      simp only [List.cons.injEq, and_true] at hv
      obtain ⟨rfl, rfl, rfl, rfl⟩ := hv
      exact h1 k
    · rename_i k
      simp only [List.cons.injEq, and_true] at hv
      obtain ⟨rfl, rfl, rfl, rfl⟩ := hv
      exact h2 k
theorem wholeE (P : Int → Int → Int → Int → Prop) : (∀ v u s t : Int, [v, u, s, t] = tbC.out 8 4 [] → P v u s t) ↔ P 0 1 1 0 := by
  have e : tbC.out 8 4 [] = [0, 1, 1, 0] := outN (T := tbC) (g := 8) (s := s8) (F := wholeF) rfl rfl rfl rfl rfl ⟨(by omega : I64 0), (by omega : I64 1), (by omega : I64 1), (by omega : I64 0), trivial⟩
  rw [e]
  exact ⟨fun h => h _ _ _ _ rfl, fun h v u s t hv => by simp only [List.cons.injEq, and_true] at hv; obtain ⟨rfl, rfl, rfl, rfl⟩ := hv; exact h⟩
theorem cPathI : CC 5 s5 := by
  refine k5 tbC wI wM prC ⟨rfl, rfl, rfl, rfl, trivial⟩ ⟨fun _ _ _ => trivial, fun _ _ _ => trivial, fun _ _ _ => trivial, fun _ _ _ => trivial, trivial⟩ rfl ⟨cWhole, cBeh, cMid, cValid, trivial⟩ trivial ⟨⟨cTrim, fun h => (by cases h)⟩, trivial⟩ (fun _ _ h _ => h) fun l _ hl _ => ?_
  have hl' : ((∀ x ∈ l, 0 ≤ x ∧ x ≤ 255) ∧ (l.length : Int) ≤ 9223372036854775807 * 1) ∧ _ := hl
  have hb := hl'.1.1
  rw [show tbC.app 5 [] [l] = (if 200 < (l.length : Int) then [0, 0, 3] else if LRs l then sbW 0 1 1 0 l else [0, 0, 5]) from rfl]
  simp only [p5, decide_eq_true_eq, decide_eq_false_iff_not, Bool.not_eq_true', Bool.not_eq_false']
  refine ⟨fun h => by rw [if_pos h], fun h => ⟨rfl, fun _ l1 _ _ e1 => ?_⟩⟩
  rw [if_neg h]
  have e1 : l1 = trimL l [76, 82] := by
    have : (([] : List Int), [l1]) = ([], [trimL l [76, 82]]) := e1
    simpa using this
  subst e1
  refine ⟨fun k => by rw [if_neg (fun e => k ((trimL_LR hb).2 e))], fun k => ?_⟩
  rw [if_pos ((trimL_LR hb).1 k)]
  rw [wholeE]
  refine ⟨⟨i5 (by omega) (by omega) (by omega) (by omega) (by omega), Way.start l⟩, fun i a b c d hx hw => ?_⟩
  have hw : Way l i a b c d := hw
  have bd := hw.bd (by omega)
  have wac : W (a + c) = a + c := W_id (by omega)
  have wbd : W (b + d) = b + d := W_id (by omega)
  have h4 : allHas [i64, i64, i64, i64] [a, b, c, d] := ⟨(by omega : I64 a), (by omega : I64 b), (by omega : I64 c), (by omega : I64 d), trivial⟩
  refine ⟨fun hi => ⟨⟨hw.i0, hi⟩, fun _ => ?_⟩, fun hi => ?_⟩
  · rw [behE _ _ _ _ _ h4]
    simp only [midE, validE]
    rw [wac, wbd]
    have hWi : IntKind.wrap .i64 (i + 1) = i + 1 := W_id (by omega)
    have hm : ∀ {e f g h : Int}, wM 1 ⟨[0, 1, 1, 0], [l, trimL l [76, 82]]⟩ ⟨[i + 1, e, f, g, h], []⟩ < wM 1 ⟨[0, 1, 1, 0], [l, trimL l [76, 82]]⟩ ⟨[i, a, b, c, d], []⟩ := by
      intro e f g h
      show l.length - (i + 1).toNat < l.length - i.toNat
      omega
    refine ⟨fun hx => ?_, fun hx => ?_⟩
    · have st := hw.stepL hi hx
      rw [show W (a + (a + c)) = a + (a + c) from W_id (by omega), show W (b + (b + d)) = b + (b + d) from W_id (by omega)]
      have det : b * (a + (a + c)) - a * (b + (b + d)) = 1 := by
        have := hw.det
        rw [Int.mul_add, Int.mul_add a, Int.mul_comm a b]; omega
      have vi := vr_iff (p := a + (a + c)) (q := b + (b + d)) (by have := hw.a0; have := hw.c0; omega) (by have := hw.b0; have := hw.d0; omega) det
      refine ⟨fun k => ?_, fun k => ?_⟩
      · refine st.2 fun q => ?_
        rw [if_pos (vi.2 q)] at k
        exact k rfl
      · have q : a + (a + c) ≤ 2147483648 ∧ b + (b + d) ≤ 2147483648 := by
          by_cases v : VR (a + (a + c)) (b + (b + d))
          · exact vi.1 v
          · rw [if_neg v] at k; cases k
        rw [hWi]
        exact ⟨i5 (by omega) (by omega) (by omega) (by omega) (by omega), st.1 q, hm⟩
    · have st := hw.stepR hi hx
      rw [show W (a + c + c) = a + c + c from W_id (by omega), show W (b + d + d) = b + d + d from W_id (by omega)]
      have det : (b + d) * (a + c + c) - (a + c) * (b + d + d) = 1 := by
        have e1 : b * (a + c) = b * a + b * c := Int.mul_add ..
        have e2 : a * (b + d) = a * b + a * d := Int.mul_add ..
        have e3 : (b + d) * (a + c + c) = b * a + b * c + b * c + (d * a + d * c + d * c) := by rw [Int.add_mul, Int.mul_add, Int.mul_add, Int.mul_add, Int.mul_add]
        have e4 : (a + c) * (b + d + d) = a * b + a * d + a * d + (c * b + c * d + c * d) := by rw [Int.add_mul, Int.mul_add, Int.mul_add, Int.mul_add, Int.mul_add]
        have det := hw.det
        rw [e3, e4]
        rw [e1, e2] at det
        have f1 := Int.mul_comm a b
        have f2 := Int.mul_comm a d
        have f3 := Int.mul_comm c b
        have f4 := Int.mul_comm c d
        omega
      have vi := vr_iff (p := a + c + c) (q := b + d + d) (by have := hw.a0; have := hw.c0; omega) (by have := hw.b0; have := hw.d0; omega) det
      refine ⟨fun k => ?_, fun k => ?_⟩
      · refine st.2 fun q => ?_
        rw [if_pos (vi.2 q)] at k
        exact k rfl
      · have q : a + c + c ≤ 2147483648 ∧ b + d + d ≤ 2147483648 := by
          by_cases v : VR (a + c + c) (b + d + d)
          · exact vi.1 v
          · rw [if_neg v] at k; cases k
        rw [hWi]
        exact ⟨i5 (by omega) (by omega) (by omega) (by omega) (by omega), st.1 q, hm⟩
  · rw [midE, wac, wbd]
    exact hw.fin hi
end Go.Proofs.YtlgccppfjclncaaDoor.Sx
