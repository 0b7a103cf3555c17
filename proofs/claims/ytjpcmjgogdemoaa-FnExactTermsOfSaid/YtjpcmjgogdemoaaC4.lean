/-
  Terms of fractions: which are valid, and their order.
-/
import Derived.Test.YtjpcmjgogdemoaaC2
namespace Go.Proofs.Ytjpcmjgogdemoaa.Sx
open Go Go.RowKit
set_option linter.unusedVariables false
set_option linter.unusedSimpArgs false

def invT (_ : Nat) (ρ σ : Env) : Prop := match ρ.l, σ.i with
  | [l], [i] => 0 ≤ i ∧ i ≤ (l.length : Int) ∧ ∀ j : Nat, (j : Int) < i → TOk j (l.getD j 0)
  | _, _ => False
def muT (_ : Nat) (ρ σ : Env) : Nat := match ρ.l, σ.i with
  | l :: _, [i] => ((l.length : Int) - i).toNat
  | _, _ => 0
theorem tok_next {l : List Int} {n : Nat} (h4 : ∀ j : Nat, (j : Int) < n → TOk j (l.getD j 0)) (hn : TOk n (l.getD n 0)) : ∀ j : Nat, (j : Int) < (n : Int) + 1 → TOk j (l.getD j 0) := fun j hj => by
  by_cases e : j = n
  · subst e; exact hn
  · exact h4 j (by omega)
theorem size9 {x : Int} (hx : I64 x) : (if x < 0 then W (0 - x) else x) ≤ 1000000000 ∧ -1000000000 ≤ x ↔ In9 x := by
  by_cases h : x < 0
  · rw [if_pos h]
    by_cases k : x = -9223372036854775808
    · subst k; decide
    · rw [show W (0 - x) = 0 - x from W_id (by omega)]; omega
  · rw [if_neg h]; omega
theorem szN9 {x v : Int} (hx : I64 x) (hv : [v] = tbC.out 82 1 [x]) : v = if x < 0 then W (0 - x) else x := by
  have hv := outN (T := tbC) (g := 82) (F := sizeF) rfl rfl rfl rfl hv (size_has hx)
  simpa only [sizeF, List.cons.injEq, and_true] using hv
theorem getD_i64 {l : List Int} (h : ∀ x ∈ l, (kindsIv [.i64]).has x) (n : Nat) : I64 (l.getD n 0) := by
  rw [List.getD_eq_getElem?_getD]
  cases e : l[n]? with
  | none => exact ⟨by decide, by decide⟩
  | some x =>
    have := h x (List.mem_of_getElem? e)
    exact ⟨this.1, this.2⟩
theorem cTerms : CC 75 s75 := by
  refine k75 tbC invT muT prC ⟨rfl, trivial⟩ ⟨fun _ _ _ => trivial, trivial⟩ rfl ⟨cSize, trivial⟩ trivial (fun _ _ h _ => h) fun l hx hl _ => ?_
  have hk := hl.1.1
  simp only [p75, decide_eq_true_eq, decide_eq_false_iff_not, Bool.not_eq_true', Bool.not_eq_false', Int.zero_add]
  have no : ¬ VT l → [0] = tbC.app 75 [] [l] := fun h => by
    show [0] = [if VT l then (1 : Int) else 0]
    rw [if_neg h]
  have yes : ∀ x : Int, x = (if VT l then 1 else 0) → [x] = tbC.app 75 [] [l] := fun x h => by rw [h]; rfl
  intro v0 h0
  subst h0
  refine ⟨fun h1 => ⟨fun h2 => no fun e => by omega, fun h2 => ⟨⟨hasI ⟨by decide, by decide⟩, Int.le_refl _, by omega, fun j hj => by omega⟩, fun i hi hI => ?_⟩⟩, fun h1 => no fun e => h1 e.1.1⟩
  obtain ⟨g1, g2, g4⟩ : 0 ≤ i ∧ i ≤ (l.length : Int) ∧ ∀ j : Nat, (j : Int) < i → TOk j (l.getD j 0) := hI
  obtain ⟨n, rfl⟩ := Int.eq_ofNat_of_zero_le g1
  rw [Int.toNat_natCast]
  have bad : (n : Int) < l.length → ¬ TOk n (l.getD n 0) → [0] = tbC.app 75 [] [l] := fun hn h => no fun e => h (e.2.1 n (by omega))
  refine ⟨fun hlt => ⟨⟨g1, hlt⟩, fun _ => ⟨hlt, fun _ x hx v hv => ?_⟩⟩, fun hge => ?_⟩
  · subst hx
    have hk9 := size9 (getD_i64 hk n)
    have hv := szN9 (getD_i64 hk n) hv
    subst hv
    refine ⟨fun h3 => ⟨⟨g1, hlt⟩, fun _ => ⟨hlt, fun _ y hy => ?_⟩⟩, fun h3 => bad hlt fun e => h3 (hk9.2 e.1).1⟩
    subst hy
    refine ⟨fun h4 => ⟨fun h5 => ⟨hlt, fun _ => ⟨hlt, fun _ z hz => ?_⟩⟩, fun h5 => ?_⟩, fun h4 => bad hlt fun e => h4 (hk9.2 e.1).2⟩
    · subst hz
      refine ⟨fun h6 => bad hlt fun e => by have := e.2 (by omega); omega, fun h6 w hw => ?_⟩
      rw [show IntKind.wrap .i64 ((n : Int) + 1) = (n : Int) + 1 from W_id ⟨by omega, by omega⟩] at hw
      subst hw
      refine ⟨hasI ⟨by omega, by omega⟩, ⟨by omega, by omega, tok_next g4 ⟨hk9.1 ⟨h3, h4⟩, fun _ => by omega⟩⟩, ?_⟩
      show ((l.length : Int) - (n + 1)).toNat < ((l.length : Int) - n).toNat
      omega
    · refine ⟨hasI ⟨by omega, by omega⟩, ⟨by omega, by omega, tok_next g4 ⟨hk9.1 ⟨h3, h4⟩, fun k => by omega⟩⟩, ?_⟩
      show ((l.length : Int) - (n + 1)).toNat < ((l.length : Int) - n).toNat
      omega
  · have all : ∀ j, j < l.length → TOk j (l.getD j 0) := fun j hj => g4 j (by omega)
    refine ⟨fun h3 => ⟨by omega, fun _ => ⟨by omega, fun _ x hx => yes _ ?_⟩⟩, fun h3 => yes _ ?_⟩
    · rw [show (((l.length : Int) - 1).toNat) = l.length - 1 by omega] at hx
      subst hx
      by_cases h5 : 2 ≤ l.getD (l.length - 1) 0
      · rw [if_pos h5, if_pos ⟨⟨h1, by omega⟩, all, fun _ => h5⟩]
      · rw [if_neg h5, if_neg fun e => h5 (e.2.2 h3)]
    · rw [if_pos ⟨⟨h1, by omega⟩, all, fun h => absurd h3 h⟩]
theorem cVT' : CC 31 s31 := by
  refine k31 tbC invT muT prC ⟨rfl, trivial⟩ ⟨fun _ _ _ => trivial, trivial⟩ rfl ⟨cWi, trivial⟩ trivial (fun _ _ h _ => h) fun l hx hl _ => ?_
  have hk := hl.1.1
  simp only [p31, decide_eq_true_eq, decide_eq_false_iff_not, Bool.not_eq_true', Bool.not_eq_false', Int.zero_add]
  have no : ¬ VT l → [0] = tbC.app 31 [] [l] := fun h => by
    show [0] = [if VT l then (1 : Int) else 0]
    rw [if_neg h]
  have yes : ∀ x : Int, x = (if VT l then 1 else 0) → [x] = tbC.app 31 [] [l] := fun x h => by rw [h]; rfl
  refine ⟨fun h1 => ⟨fun h2 => no fun e => by omega, fun h2 => ⟨⟨hasI ⟨by decide, by decide⟩, Int.le_refl _, by omega, fun j hj => by omega⟩, fun i hi hI => ?_⟩⟩, fun h1 => no fun e => h1 e.1.1⟩
  obtain ⟨g1, g2, g4⟩ : 0 ≤ i ∧ i ≤ (l.length : Int) ∧ ∀ j : Nat, (j : Int) < i → TOk j (l.getD j 0) := hI
  obtain ⟨n, rfl⟩ := Int.eq_ofNat_of_zero_le g1
  rw [Int.toNat_natCast]
  have bad : (n : Int) < l.length → ¬ TOk n (l.getD n 0) → [0] = tbC.app 31 [] [l] := fun hn h => no fun e => h (e.2.1 n (by omega))
  have w9 : W (0 - 1000000000) = -1000000000 := (W_id (by omega)).trans (by omega)
  refine ⟨fun hlt => ⟨⟨g1, hlt⟩, fun _ => ⟨hlt, fun _ x hx v hv => ?_⟩⟩, fun hge => ?_⟩
  · subst hx
    have hv := wiT hv
    rw [w9] at hv
    rw [one01 hv]
    refine ⟨fun h3 => ⟨fun h5 => ⟨fun h6 => bad hlt fun e => by have := e.2 (by omega); omega, fun h6 => ?_⟩, fun h5 => ?_⟩, fun h3 => bad hlt fun e => h3 e.1⟩
    · rw [show IntKind.wrap .i64 ((n : Int) + 1) = (n : Int) + 1 from W_id ⟨by omega, by omega⟩]
      refine ⟨hasI ⟨by omega, by omega⟩, ⟨by omega, by omega, tok_next g4 ⟨h3, fun _ => by omega⟩⟩, ?_⟩
      show ((l.length : Int) - (n + 1)).toNat < ((l.length : Int) - n).toNat
      omega
    · refine ⟨hasI ⟨by omega, by omega⟩, ⟨by omega, by omega, tok_next g4 ⟨h3, fun k => by omega⟩⟩, ?_⟩
      show ((l.length : Int) - (n + 1)).toNat < ((l.length : Int) - n).toNat
      omega
  · have all : ∀ j, j < l.length → TOk j (l.getD j 0) := fun j hj => g4 j (by omega)
    refine ⟨fun h3 => ⟨⟨by omega, by omega⟩, fun _ => ⟨by omega, fun _ x hx => yes _ ?_⟩⟩, fun h3 => yes _ ?_⟩
    · rw [show (((l.length : Int) - 1).toNat) = l.length - 1 by omega] at hx
      subst hx
      by_cases h5 : 2 ≤ l.getD (l.length - 1) 0
      · rw [if_pos h5, if_pos ⟨⟨h1, by omega⟩, all, fun _ => h5⟩]
      · rw [if_neg h5, if_neg fun e => h5 (e.2.2 h3)]
    · rw [if_pos ⟨⟨h1, by omega⟩, all, fun h => absurd h3 h⟩]
theorem teT {y : Int} {a : List Int} (hy : [y] = tbC.outL 75 1 [] [a]) : y = if VT a then 1 else 0 := out1 (F := vtF) (s := s75) rfl rfl rfl hy rfl (bool_has _)
theorem vtT {y : Int} {a : List Int} (hy : [y] = tbC.outL 31 1 [] [a]) : y = if VT a then 1 else 0 := out1 (F := vtF) (s := s31) rfl rfl rfl hy rfl (bool_has _)
theorem vtT' {y : Int} {a : List Int} (hy : [y] = tbC.outL 29 1 [] [a]) : y = if VT a then 1 else 0 := out1 (F := vtF) (s := s29) rfl rfl rfl hy rfl (bool_has _)
theorem cVT : CC 29 s29 := by
  refine k29 tbC noI noM prC ⟨rfl, trivial⟩ ⟨fun _ _ _ => trivial, trivial⟩ rfl ⟨cTerms, trivial⟩ trivial (fun _ _ h _ => h) fun l hx hl _ => ?_
  simp only [p29]
  intro y hy
  rw [teT hy]; rfl
theorem fValid : CC 6 s6 := by
  refine k6 tbC noI noM prC (by exact ⟨rfl, rfl, rfl, trivial⟩) (by exact ⟨fun _ _ _ => trivial, fun _ _ _ => trivial, fun _ _ _ => trivial, trivial⟩) rfl
    (by exact ⟨cVT, cVT', cEq64S, trivial⟩) (by exact ⟨toInt64S_cp, trivial⟩) (fun _ _ h _ => h) fun l hx hl _ => ?_
  simp only [p6, decide_eq_true_eq, decide_eq_false_iff_not, Bool.not_eq_true', Bool.not_eq_false']
  refine ⟨fun _ => rfl, fun hn => ?_⟩
  have g : (l.length : Int) ≤ 1099511627776 := by omega
  refine ⟨g, fun _ a ha => ⟨g, fun _ b hb => ?_⟩⟩
  have ha := vtT' ha
  have hb := vtT hb
  subst ha hb
  refine ⟨fun h => ?_, fun _ => ⟨g, fun _ r hr => ?_⟩⟩
  · simp at h
  · rw [one01 (eq64T hr)]
    exact ⟨fun h => absurd rfl h, fun _ => rfl⟩

/-! ### Order -/
def sg (n : Nat) : Int := if Int.tmod n 2 = 1 then -1 else 1
theorem sg_succ (n : Nat) : sg (n + 1) = - sg n := by
  unfold sg
  rw [Int.tmod_eq_emod_of_nonneg (Int.natCast_nonneg (n + 1)), Int.tmod_eq_emod_of_nonneg (Int.natCast_nonneg n)]
  have : ((n : Int) + 1) % 2 = 1 ↔ ¬ (n : Int) % 2 = 1 := by omega
  by_cases h : (n : Int) % 2 = 1
  · rw [if_pos h, if_neg (fun e => this.1 (by simpa using e) h)]; rfl
  · rw [if_neg h, if_pos (by simpa using this.2 h)]
theorem drop_cons {a : List Int} {n : Nat} (h : n < a.length) : a.drop n = a.getD n 0 :: a.drop (n + 1) := by
  rw [List.drop_eq_getElem_cons h, List.getD_eq_getElem?_getD, List.getElem?_eq_getElem h]; rfl
theorem drop_none {a : List Int} {n : Nat} (h : n = a.length) : a.drop n = [] := by
  rw [List.drop_eq_nil_iff]; omega
theorem cmpT_nil_cons {s x : Int} {b : List Int} : cmpT s [] (x :: b) = s := rfl
theorem cmpT_cons_nil {s x : Int} {b : List Int} : cmpT s (x :: b) [] = -s := rfl
theorem cmpT_cons {s x y : Int} {a b : List Int} : cmpT s (x :: a) (y :: b) = if y < x then s else if x < y then -s else cmpT (-s) a b := rfl
theorem cmpT_bd : ∀ (s : Int) (a b : List Int), -1 ≤ s ∧ s ≤ 1 → -1 ≤ cmpT s a b ∧ cmpT s a b ≤ 1
  | s, [], [], _ => by simp [cmpT]
  | s, [], _ :: _, h => by simp only [cmpT]; omega
  | s, _ :: _, [], h => by simp only [cmpT]; omega
  | s, x :: a, y :: b, h => by
    have := cmpT_bd (-s) a b (by omega)
    simp only [cmpT]
    split
    · omega
    · split <;> omega
def invC (_ : Nat) (ρ σ : Env) : Prop := match ρ.l, σ.i with
  | [a, b], [i] => 0 ≤ i ∧ i ≤ (a.length : Int) ∧ i ≤ (b.length : Int) ∧ cmpT 1 a b = cmpT (sg i.toNat) (a.drop i.toNat) (b.drop i.toNat)
  | _, _ => False
theorem cCmpT : CC 77 s77 := by
  refine k77 tbC invC muT prC trivial trivial rfl trivial trivial (fun _ _ h _ => h) fun a b hx hl _ => ?_
  have ha : (a.length : Int) ≤ 9223372036854775807 := hl.1.2
  have hb : (b.length : Int) ≤ 9223372036854775807 := hl.2.1.2
  simp only [p77, decide_eq_true_eq, decide_eq_false_iff_not, Bool.not_eq_true', Bool.not_eq_false', Int.zero_add]
  have fin : ∀ x : Int, x = cmpT 1 a b → [x] = tbC.app 77 [] [a, b] := fun x h => by rw [h]; rfl
  refine ⟨⟨hasI ⟨by decide, by decide⟩, Int.le_refl _, by omega, by omega, rfl⟩, fun i hi hI => ?_⟩
  obtain ⟨g1, g2, g3, g4⟩ : 0 ≤ i ∧ i ≤ (a.length : Int) ∧ i ≤ (b.length : Int) ∧ cmpT 1 a b = cmpT (sg i.toNat) (a.drop i.toNat) (b.drop i.toNat) := hI
  obtain ⟨n, rfl⟩ := Int.eq_ofNat_of_zero_le g1
  rw [Int.toNat_natCast] at g4 ⊢
  intro s hs
  rw [show (if Int.tmod (n : Int) 2 = 1 then (-1 : Int) else 1) = sg n from rfl] at hs
  subst hs
  refine ⟨fun h1 => ⟨fun h2 => fin _ ?_, fun h2 => fin _ ?_⟩, fun h1 => ⟨fun h2 v hv => fin _ ?_, fun h2 => ?_⟩⟩
  · rw [g4, drop_none (a := a) (by omega), drop_none (a := b) (by omega)]; rfl
  · rw [g4, drop_none (a := a) (by omega), drop_cons (a := b) (by omega)]; rfl
  · rw [g4, drop_cons (a := a) (by omega), drop_none (a := b) (by omega), hv, cmpT_cons_nil, Int.zero_sub]
  · have na : n < a.length := by omega
    have nb : n < b.length := by omega
    rw [drop_cons na, drop_cons nb, cmpT_cons] at g4
    refine ⟨⟨g1, by omega, by omega, g1, by omega, by omega⟩, fun _ x hx y hy => ⟨fun h3 => fin _ ?_, fun h3 => ⟨⟨g1, by omega, by omega, g1, by omega, by omega⟩, fun _ x hx y hy => ⟨fun h4 v hv => fin _ ?_, fun h4 v hv => ?_⟩⟩⟩⟩
    · rw [g4, if_pos h3]
    · rw [g4, if_neg h3, if_pos h4, hv, Int.zero_sub]
    · rw [show IntKind.wrap .i64 ((n : Int) + 1) = ((n + 1 : Nat) : Int) from W_id ⟨by omega, by omega⟩] at hv
      subst hv
      rw [if_neg h3, if_neg h4, ← sg_succ] at g4
      refine ⟨hasI ⟨by omega, by omega⟩, ⟨by omega, by omega, by omega, g4⟩, ?_⟩
      show ((a.length : Int) - ((n + 1 : Nat) : Int)).toNat < ((a.length : Int) - n).toNat
      omega
theorem cToe : CC 79 s79 := by
  refine k79 tbC noI noM prC trivial trivial rfl trivial trivial (fun _ _ h _ => h) fun i l hx hl hp => ?_
  have h0 : 0 ≤ i := hp
  simp only [p79, decide_eq_true_eq, decide_eq_false_iff_not, Int.zero_add]
  show (_ → _ ∧ (_ → _ ∧ (_ → ∀ v1 : Int, _ → [v1] = [if i < (l.length : Int) then l.getD i.toNat 0 else 9223372036854775807]))) ∧ (_ → _ = [if i < (l.length : Int) then l.getD i.toNat 0 else 9223372036854775807])
  refine ⟨fun h => ⟨⟨h0, h⟩, fun _ => ⟨h, fun _ y hy => ?_⟩⟩, fun h => ?_⟩
  · rw [hy, if_pos h]
  · rw [if_neg h]
theorem toeT {y : Int} {n : Nat} {l : List Int} (h : ∀ x ∈ l, (kindsIv [.i64]).has x) (hy : [y] = tbC.outL 79 1 [(n : Int)] [l]) : y = if n < l.length then l.getD n 0 else 9223372036854775807 := by
  have := out1 (F := toeF) (s := s79) rfl rfl rfl hy (z := if (n : Int) < l.length then l.getD n 0 else 9223372036854775807) rfl (hasI (by
    split
    · exact getD_i64 h n
    · exact ⟨by decide, by decide⟩))
  rw [this]
  by_cases k : n < l.length
  · rw [if_pos k, if_pos (by omega)]
  · rw [if_neg k, if_neg (by omega)]
theorem cmpN {x y v : Int} (hv : [v] = tbC.out 78 1 [x, y]) : v = cmpI x y := by
  have hv := outN (T := tbC) (g := 78) (F := cmp2F) rfl rfl rfl rfl hv (cmp_has _ _)
  simpa only [cmp2F, List.cons.injEq, and_true] using hv
theorem cCmpTW : CC 33 s33 := by
  refine k33 tbC noI noM prC ⟨rfl, rfl, trivial⟩ ⟨fun _ _ _ => trivial, fun _ _ _ => trivial, trivial⟩ rfl ⟨cTerms, cCmpT, trivial⟩ trivial (fun _ _ h _ => h) fun a b hx hl _ => ?_
  simp only [p33, decide_eq_true_eq, decide_eq_false_iff_not, Bool.not_eq_true', Bool.not_eq_false']
  rw [show tbC.app 33 [] [a, b] = if VT a ∧ VT b then [cmpT 1 a b, 0] else [0, 1] from rfl]
  intro v hv
  rw [one01 (teT hv)]
  refine ⟨fun h w hw => ?_, fun h => by rw [if_neg (fun e => h e.1)]⟩
  rw [one01 (teT hw)]
  refine ⟨fun k => by rw [if_neg (fun e => k e.2)], fun k o ho => ?_⟩
  have bd := cmpT_bd 1 a b (by decide)
  have ho := out1 (F := cmpTF) (s := s77) rfl rfl rfl ho rfl (hasI (by omega))
  rw [if_pos (show VT a ∧ VT b from ⟨h, k⟩), ho]
def invC' (_ : Nat) (ρ σ : Env) : Prop := match ρ.l, σ.i with
  | [a, b], [i] => 0 ≤ i ∧ i ≤ (a.length : Int) ∧ i ≤ (b.length : Int) ∧ cmpT 1 a b = cmpT (sg i.toNat) (a.drop i.toNat) (b.drop i.toNat)
  | _, _ => False
theorem vt_lt {l : List Int} {n : Nat} (h : VT l) (hn : n < l.length) : l.getD n 0 < 9223372036854775807 := by
  have := (h.2.1 n hn).1
  omega
theorem sgneg {n : Nat} : (Int.tmod (n : Int) 2 = 1 → sg n = -1) ∧ (¬ Int.tmod (n : Int) 2 = 1 → sg n = 1) := by
  unfold sg
  exact ⟨fun h => by rw [if_pos h], fun h => by rw [if_neg h]⟩
/-- What the order of two terms tells, an end being greater than each term. -/
theorem cmp_at {a b : List Int} {n : Nat} (ha : VT a) (hb : VT b) (g2 : n ≤ a.length) (g3 : n ≤ b.length) (hn : n < a.length ∨ n < b.length) (x y : Int) (hx : x = if n < a.length then a.getD n 0 else 9223372036854775807) (hy : y = if n < b.length then b.getD n 0 else 9223372036854775807) :
    (¬ cmpI x y = 0 → cmpT (sg n) (a.drop n) (b.drop n) = sg n * cmpI x y) ∧ (cmpI x y = 0 → n < a.length ∧ n < b.length ∧ cmpT (sg n) (a.drop n) (b.drop n) = cmpT (sg (n + 1)) (a.drop (n + 1)) (b.drop (n + 1))) := by
  by_cases ka : n < a.length
  · rw [if_pos ka] at hx
    have la := vt_lt ha ka
    by_cases kb : n < b.length
    · rw [if_pos kb] at hy
      rw [drop_cons ka, drop_cons kb, cmpT_cons, ← hx, ← hy]
      unfold cmpI
      by_cases h1 : x < y
      · rw [if_pos h1, if_neg (by omega), if_pos h1]
        exact ⟨fun _ => by omega, fun h => by omega⟩
      · by_cases h2 : y < x
        · rw [if_neg h1, if_pos h2, if_pos h2]
          exact ⟨fun _ => by omega, fun h => by omega⟩
        · rw [if_neg h1, if_neg h2, if_neg h2, if_neg h1, sg_succ]
          exact ⟨fun h => by omega, fun _ => ⟨ka, kb, rfl⟩⟩
    · rw [if_neg kb] at hy
      rw [drop_cons ka, drop_none (a := b) (by omega), cmpT_cons_nil]
      unfold cmpI
      rw [if_pos (by omega)]
      exact ⟨fun _ => by omega, fun h => by omega⟩
  · rw [if_neg ka] at hx
    have kb : n < b.length := by omega
    have lb := vt_lt hb kb
    rw [if_pos kb] at hy
    rw [drop_cons kb, drop_none (a := a) (by omega), cmpT_nil_cons]
    unfold cmpI
    rw [if_neg (by omega), if_pos (by omega)]
    exact ⟨fun _ => by omega, fun h => by omega⟩
def muC' (_ : Nat) (ρ σ : Env) : Nat := match ρ.l, σ.i with
  | [a, b], [i] => ((a.length : Int) + b.length - i).toNat
  | _, _ => 0
theorem cCmpTW' : CC 34 s34 := by
  refine k34 tbC invC' muC' prC (by exact ⟨rfl, rfl, rfl, trivial⟩) (by exact ⟨fun _ _ _ => trivial, fun h => (by cases h), fun _ _ _ => trivial, trivial⟩) rfl (by exact ⟨cVT', cToe, cCmp2, trivial⟩) trivial (fun _ _ h _ => h) fun a b hx hl _ => ?_
  have ha : (a.length : Int) ≤ 9223372036854775807 := hl.1.2
  have hb : (b.length : Int) ≤ 9223372036854775807 := hl.2.1.2
  simp only [p34, decide_eq_true_eq, decide_eq_false_iff_not, Bool.not_eq_true', Bool.not_eq_false']
  rw [show tbC.app 34 [] [a, b] = if VT a ∧ VT b then [cmpT 1 a b, 0] else [0, 1] from rfl]
  intro v hv
  rw [one01 (vtT hv)]
  refine ⟨fun h w hw => ?_, fun h => by rw [if_neg (fun e => h e.1)]⟩
  rw [one01 (vtT hw)]
  refine ⟨fun k => by rw [if_neg (fun e => k e.2)], fun k => ⟨⟨hasI ⟨by decide, by decide⟩, Int.le_refl _, by omega, by omega, rfl⟩, fun i hi hI => ?_⟩⟩
  obtain ⟨g1, g2, g3, g4⟩ : 0 ≤ i ∧ i ≤ (a.length : Int) ∧ i ≤ (b.length : Int) ∧ cmpT 1 a b = cmpT (sg i.toNat) (a.drop i.toNat) (b.drop i.toNat) := hI
  obtain ⟨n, rfl⟩ := Int.eq_ofNat_of_zero_le g1
  rw [Int.toNat_natCast] at g4
  rw [if_pos (show VT a ∧ VT b from ⟨h, k⟩)]
  refine ⟨fun hlt => ⟨g1, fun _ x hx => ⟨g1, fun _ y hy o ho => ?_⟩⟩, fun hge => ?_⟩
  · have hx := toeT hl.1.1 hx
    have hy := toeT hl.2.1.1 hy
    have ho := cmpN ho
    subst ho
    obtain ⟨e1, e2⟩ := cmp_at h k (by omega) (by omega) (by split at hlt <;> omega) x y hx hy
    refine ⟨fun h0 => ⟨fun h5 u hu => ?_, fun h5 => ?_⟩, fun h0 => ?_⟩
    · rw [hu, g4, e1 h0, sgneg.1 h5]
      simp
    · rw [g4, e1 h0, sgneg.2 h5]
      simp
    · obtain ⟨m1, m2, m3⟩ := e2 h0
      rw [show IntKind.wrap .i64 ((n : Int) + 1) = ((n + 1 : Nat) : Int) from W_id ⟨by omega, by omega⟩]
      refine ⟨hasI ⟨by omega, by omega⟩, ⟨by omega, by omega, by omega, g4.trans m3⟩, ?_⟩
      show ((a.length : Int) + b.length - ((n + 1 : Nat) : Int)).toNat < ((a.length : Int) + b.length - n).toNat
      omega
  · have ea : n = a.length := by split at hge <;> omega
    have eb : n = b.length := by split at hge <;> omega
    rw [g4, drop_none ea, drop_none eb]; rfl
theorem cmpTW_shape (a b : List Int) : ∃ x y, cmpTWF [] [a, b] = [x, y] ∧ I64 x ∧ I64 y := by
  simp only [cmpTWF]
  split
  · have := cmpT_bd 1 a b (by decide)
    exact ⟨_, _, rfl, by omega, by decide⟩
  · exact ⟨_, _, rfl, by decide, by decide⟩
theorem fCompareT : CC 7 s7 := by
  refine k7 tbC noI noM prC (by exact ⟨rfl, rfl, rfl, trivial⟩) (by exact ⟨fun _ _ _ => trivial, fun _ _ _ => trivial, fun _ _ _ => trivial, trivial⟩) rfl
    (by exact ⟨cCmpTW, cCmpTW', cEq64S, trivial⟩) (by exact ⟨toInt64S_cp, trivial⟩) (fun _ _ h _ => h) fun a b hx hl _ => ?_
  obtain ⟨x, y, e, h1, h2⟩ := cmpTW_shape a b
  simp only [p7, decide_eq_true_eq, decide_eq_false_iff_not, Bool.not_eq_true', Bool.not_eq_false']
  refine ⟨fun _ => rfl, fun hn => ⟨fun _ => rfl, fun hn2 => ?_⟩⟩
  have ga : (a.length : Int) ≤ 1099511627776 := by omega
  have gb : (b.length : Int) ≤ 1099511627776 := by omega
  refine ⟨ga, fun _ => ⟨gb, fun _ u1 u2 hu => ⟨ga, fun _ => ⟨gb, fun _ w1 w2 hw => ?_⟩⟩⟩⟩
  have hu := outP (F := cmpTWF) (s := s33) rfl rfl rfl hu (by rw [e]; exact ⟨h1, h2, trivial⟩)
  have hw := outP (F := cmpTWF) (s := s34) rfl rfl rfl hw (by rw [e]; exact ⟨h1, h2, trivial⟩)
  rw [e] at hu hw
  simp only [List.cons.injEq, and_true] at hu hw
  obtain ⟨rfl, rfl⟩ := hu
  obtain ⟨rfl, rfl⟩ := hw
  refine ⟨fun _ => ⟨fun h => absurd rfl h, fun _ => ⟨ga, fun _ s hs => ?_⟩⟩, fun h => absurd rfl h⟩
  rw [one01 (eq64T hs)]
  refine ⟨fun h => absurd rfl h, fun _ => ⟨gb, fun _ r hr => ?_⟩⟩
  rw [one01 (eq64T hr)]
  exact ⟨fun h => absurd rfl h, fun _ => rfl⟩
end Go.Proofs.Ytjpcmjgogdemoaa.Sx
