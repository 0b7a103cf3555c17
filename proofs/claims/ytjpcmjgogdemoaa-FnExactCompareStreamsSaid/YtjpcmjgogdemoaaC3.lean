/-
  Values and bounds of streams, and their order.
-/
import Derived.Test.YtjpcmjgogdemoaaC2
namespace Go.Proofs.Ytjpcmjgogdemoaa.Sx
open Go Go.RowKit
set_option linter.unusedVariables false
set_option linter.unusedSimpArgs false

theorem pow2_bd {n m : Nat} (h : n ≤ m) : 1 ≤ (2 : Int) ^ n ∧ (2 : Int) ^ n ≤ ((2 ^ m : Nat) : Int) := by
  have h1 := Nat.pow_le_pow_right (n := 2) (by decide) h
  have h2 := Nat.one_le_two_pow (n := n)
  have e : (2 : Int) ^ n = ((2 ^ n : Nat) : Int) := by rw [Int.natCast_pow]; rfl
  rw [e]
  omega
theorem sh64 {n : Nat} (h : (n : Int) < 64) : (2 : Int) ^ ((if decide ((n : Int) < 64) = true then (n : Int) else 64) : Int).toNat = 2 ^ n := by
  rw [if_pos (decide_eq_true h), Int.toNat_natCast]
theorem mul_bd {x y m n : Int} (hx : -m ≤ x ∧ x ≤ m) (hy : -n ≤ y ∧ y ≤ n) : -(m * n) ≤ x * y ∧ x * y ≤ m * n := by
  have h : (x * y).natAbs ≤ m.toNat * n.toNat := by rw [Int.natAbs_mul]; exact Nat.mul_le_mul (by omega) (by omega)
  have e : ((m.toNat * n.toNat : Nat) : Int) = m * n := by rw [Int.natCast_mul, Int.toNat_of_nonneg (by omega), Int.toNat_of_nonneg (by omega)]
  omega

theorem whole_snoc (l : List Int) (d : Int) : whole (l ++ [d]) = 2 * whole l + d := by simp [whole]
theorem whole_take {l : List Int} {n : Nat} (h : n < l.length) : whole (l.take (n + 1)) = 2 * whole (l.take n) + l.getD n 0 := by
  rw [List.take_add_one, List.getElem?_eq_getElem h]
  show whole (l.take n ++ [l[n]]) = _
  rw [whole_snoc, List.getD_eq_getElem?_getD, List.getElem?_eq_getElem h]
  rfl
theorem whole_bd {l : List Int} (h : Digs l) : ∀ n : Nat, n ≤ l.length → -((2 : Int) ^ n - 1) ≤ whole (l.take n) ∧ whole (l.take n) ≤ (2 : Int) ^ n - 1
  | 0, _ => by simp [whole]
  | n + 1, hn => by
    have ih := whole_bd h n (by omega)
    have hd := h _ (getD_mem (a := l) (n := n) (by omega))
    rw [whole_take (by omega), Int.pow_succ]
    omega
theorem whole_all {l : List Int} (h : Digs l) : -((2 : Int) ^ l.length - 1) ≤ whole l ∧ whole l ≤ (2 : Int) ^ l.length - 1 := by
  have := whole_bd h l.length (Nat.le_refl _)
  rwa [List.take_length] at this
theorem whole_has {l : List Int} (h : Digs l) (hl : (l.length : Int) ≤ 30) : I64 (whole l) := by
  have h1 := whole_all h
  have h2 := pow2_bd (n := l.length) (m := 30) (by omega)
  omega

def invW (_ : Nat) (ρ σ : Env) : Prop := match ρ.l, σ.i with
  | [l], [v, i] => 0 ≤ i ∧ i ≤ (l.length : Int) ∧ v = whole (l.take i.toNat)
  | _, _ => False
def muW (_ : Nat) (ρ σ : Env) : Nat := match ρ.l, σ.i with
  | [l], [_, i] => ((l.length : Int) - i).toNat
  | _, _ => 0
theorem hasI2 {x y : Int} (h : I64 x) (k : I64 y) : allHas [⟨-9223372036854775808, 9223372036854775807⟩, ⟨-9223372036854775808, 9223372036854775807⟩] [x, y] := ⟨h, k, trivial⟩
theorem whole_step {l : List Int} {n : Nat} (h : Digs l) (hl : (l.length : Int) ≤ 30) (hn : n < l.length) : IntKind.wrap .i64 (IntKind.wrap .i64 (2 * whole (l.take n)) + l.getD n 0) = whole (l.take (n + 1)) ∧ I64 (whole (l.take (n + 1))) := by
  have h1 := whole_bd h n (by omega)
  have h3 := whole_bd h (n + 1) (by omega)
  have h2 := pow2_bd (n := n) (m := 30) (by omega)
  have h4 := pow2_bd (n := n + 1) (m := 30) (by omega)
  rw [W_id (x := 2 * whole (l.take n)) (by omega), ← whole_take hn]
  have : I64 (whole (l.take (n + 1))) := by omega
  exact ⟨W_id this, this⟩
theorem cUnits : CC 66 s66 := by
  refine k66 tbC invW muW prC trivial trivial rfl trivial trivial (fun _ _ h _ => h) fun l hx hl hp => ?_
  obtain ⟨hd, h30⟩ : Digs l ∧ (l.length : Int) ≤ 30 := hp
  simp only [p66, decide_eq_true_eq, decide_eq_false_iff_not, Int.zero_add]
  refine ⟨⟨hasI2 (by decide) (by decide), ⟨by decide, by omega, by simp [whole]⟩⟩, fun v i hi hI => ?_⟩
  obtain ⟨h1, h2, h3⟩ : 0 ≤ i ∧ i ≤ (l.length : Int) ∧ v = whole (l.take i.toNat) := hI
  obtain ⟨n, rfl⟩ := Int.eq_ofNat_of_zero_le h1
  rw [Int.toNat_natCast] at h3 ⊢
  subst h3
  refine ⟨fun hlt => ⟨⟨h1, hlt⟩, fun _ => ⟨hlt, fun _ x hx y hy => ?_⟩⟩, fun hge => ?_⟩
  · subst hx
    obtain ⟨e1, e2⟩ := whole_step hd h30 (n := n) (by omega)
    rw [e1] at hy
    subst hy
    rw [show IntKind.wrap .i64 ((n : Int) + 1) = ((n + 1 : Nat) : Int) from W_id ⟨by omega, by omega⟩]
    refine ⟨hasI2 e2 ⟨by omega, by omega⟩, ⟨by omega, by omega, by rw [Int.toNat_natCast]⟩, ?_⟩
    show ((l.length : Int) - ((n + 1 : Nat) : Int)).toNat < ((l.length : Int) - n).toNat
    omega
  · show [_] = [whole l]
    rw [List.take_of_length_le (by omega)]
theorem cWhole : CC 62 s62 := by
  refine k62 tbC invW muW prC trivial trivial rfl trivial trivial (fun _ _ h _ => h) fun l hx hl hp => ?_
  obtain ⟨hd, h30⟩ : Digs l ∧ (l.length : Int) ≤ 30 := hp
  simp only [p62, decide_eq_true_eq, decide_eq_false_iff_not, Int.zero_add]
  refine ⟨⟨hasI2 (by decide) (by decide), ⟨by decide, by omega, by simp [whole]⟩⟩, fun v i hi hI => ?_⟩
  obtain ⟨h1, h2, h3⟩ : 0 ≤ i ∧ i ≤ (l.length : Int) ∧ v = whole (l.take i.toNat) := hI
  obtain ⟨n, rfl⟩ := Int.eq_ofNat_of_zero_le h1
  rw [Int.toNat_natCast] at h3 ⊢
  subst h3
  refine ⟨fun hlt => ⟨⟨h1, hlt⟩, fun _ => ⟨hlt, fun _ x hx y hy z hz => ?_⟩⟩, fun hge => ?_⟩
  · subst hx
    obtain ⟨e1, e2⟩ := whole_step hd h30 (n := n) (by omega)
    rw [e1] at hy
    subst hy
    rw [show IntKind.wrap .i64 ((n : Int) + 1) = ((n + 1 : Nat) : Int) from W_id ⟨by omega, by omega⟩] at hz
    subst hz
    refine ⟨hasI2 e2 ⟨by omega, by omega⟩, ⟨by omega, by omega, by rw [Int.toNat_natCast]⟩, ?_⟩
    show ((l.length : Int) - ((n + 1 : Nat) : Int)).toNat < ((l.length : Int) - n).toNat
    omega
  · show [_] = [whole l]
    rw [List.take_of_length_le (by omega)]
theorem unT {y : Int} {a : List Int} (h : Digs a) (hl : (a.length : Int) ≤ 30) (hy : [y] = tbC.outL 66 1 [] [a]) : y = whole a := out1 (F := wholeF) (s := s66) rfl rfl rfl hy rfl (hasI (whole_has h hl))
theorem whT {y : Int} {a : List Int} (h : Digs a) (hl : (a.length : Int) ≤ 30) (hy : [y] = tbC.outL 62 1 [] [a]) : y = whole a := out1 (F := wholeF) (s := s62) rfl rfl rfl hy rfl (hasI (whole_has h hl))
theorem mk_rat {p q : Int} (hp : In18 p) (hq : In18 q) (h0 : q ≠ 0) : mkRF [p, q] = ratF [p, q] := by
  simp only [mkRF]; rw [if_pos ⟨hp, hq⟩, if_neg h0]
theorem mkT {p q a b c : Int} (hp : In18 p) (hq : In18 q) (h0 : q ≠ 0) (hy : [a, b, c] = tbC.out 67 3 [p, q]) : [a, b, c] = ratF [p, q] := by
  rw [← mk_rat hp hq h0]
  exact outN (T := tbC) (g := 67) (F := mkRF) rfl rfl rfl rfl hy mkR_has
theorem ratT {p q a b c : Int} (hp : In18 p) (hq : In18 q) (hy : [a, b, c] = tbC.out 63 3 [p, q]) : [a, b, c] = ratF [p, q] :=
  outN (T := tbC) (g := 63) (F := ratF) rfl rfl rfl rfl hy (rat_has hp hq)
theorem rat_shape {p q : Int} (hp : In18 p) (hq : In18 q) : ∃ x y z, ratF [p, q] = [x, y, z] ∧ I64 x ∧ I64 y ∧ I64 z := by
  have h := rat_has hp hq
  simp only [ratF] at h ⊢
  split
  · rename_i k
    rw [if_pos k] at h
    exact ⟨_, _, _, rfl, h.1, h.2.1, h.2.2.1⟩
  · exact ⟨_, _, _, rfl, by decide, by decide, by decide⟩

/-! ### Values -/
theorem val_bd {a b : List Int} (h : VS a b) : (-1073741824 ≤ whole a * ((2 : Int) ^ b.length - 1) ∧ whole a * ((2 : Int) ^ b.length - 1) ≤ 1073741824) ∧ (-1073741824 ≤ valP a b ∧ valP a b ≤ 1073741824) ∧ (1 ≤ valQ a b ∧ valQ a b ≤ 1073741824) ∧ (1 ≤ (2 : Int) ^ b.length - 1 ∧ (2 : Int) ^ b.length - 1 ≤ 16383) := by
  obtain ⟨h1, ⟨h2, h3⟩, h4, h5⟩ := h
  have wa := whole_all h4
  have wb := whole_all h5
  have pa := pow2_bd (n := a.length) (m := 16) (by omega)
  have pb := pow2_bd (n := b.length) (m := 14) (by omega)
  have pb1 : (2 : Int) ≤ 2 ^ b.length := by
    obtain ⟨k, hk⟩ : ∃ k, b.length = k + 1 := ⟨b.length - 1, by omega⟩
    rw [hk, Int.pow_succ]
    have := pow2_bd (n := k) (m := k) (Nat.le_refl _)
    omega
  have m1 := mul_bd (x := whole a) (y := (2 : Int) ^ b.length - 1) (m := 65535) (n := 16383) (by omega) (by omega)
  have m2 := mul_bd (x := (2 : Int) ^ b.length - 1) (y := (2 : Int) ^ a.length) (m := 16383) (n := 65536) (by omega) (by omega)
  have m3 : 0 < ((2 : Int) ^ b.length - 1) * 2 ^ a.length := Int.mul_pos (by omega) (by omega)
  unfold valP valQ
  refine ⟨by omega, by omega, by omega, by omega⟩
theorem val_in {a b : List Int} (h : VS a b) : In18 (valP a b) ∧ In18 (valQ a b) ∧ valQ a b ≠ 0 := by
  have := val_bd h
  omega
theorem val2_shape {a b : List Int} (h : VS a b) : ∃ x y, val2 a b = [x, y] ∧ I64 x ∧ I64 y := by
  obtain ⟨h1, h2, h3⟩ := val_in h
  obtain ⟨x, y, z, e, i1, i2, _⟩ := rat_shape h1 h2
  exact ⟨x, y, by unfold val2; rw [e]; rfl, i1, i2⟩
theorem top_eq {b : List Int} (h : (b.length : Int) ≤ 14) : IntKind.wrap .i64 ((IntKind.wrap .i64 (1 * (2 ^ ((if decide (((List.length b : Int) : Int) < 64) = true then (List.length b : Int) else 64) : Int).toNat))) - 1) = (2 : Int) ^ b.length - 1 := by
  have pb := pow2_bd (n := b.length) (m := 14) (by omega)
  rw [sh64 (by omega), Int.one_mul, W_id (x := 2 ^ b.length) (by omega), W_id (by omega)]
theorem valP_eq {a b : List Int} (h : VS a b) : IntKind.wrap .i64 (IntKind.wrap .i64 (whole a * ((2 : Int) ^ b.length - 1)) + whole b) = valP a b := by
  have := val_bd h
  rw [W_id (x := whole a * ((2 : Int) ^ b.length - 1)) (by omega)]
  exact W_id (by unfold valP at this; omega)
theorem valQ_eq {a b : List Int} (h : VS a b) : IntKind.wrap .i64 (((2 : Int) ^ b.length - 1) * (2 ^ ((if decide (((List.length a : Int) : Int) < 64) = true then (List.length a : Int) else 64) : Int).toNat)) = valQ a b := by
  have := val_bd h
  rw [sh64 (by omega)]
  exact W_id (by unfold valQ at this; omega)
theorem cVal : CC 70 s70 := by
  refine k70 tbC noI noM prC (by exact ⟨rfl, rfl, trivial⟩) (by exact ⟨fun h => (by cases h), fun h => (by cases h), trivial⟩) rfl (by exact ⟨cWhole, cMake, trivial⟩) trivial (fun _ _ h _ => h) fun a b hx hl hp => ?_
  have h : VS a b := hp
  unfold p70
  intro v0 h0
  rw [top_eq (by omega)] at h0
  subst h0
  refine ⟨⟨⟨h.2.2.1, by omega⟩, ⟨h.2.2.2, by omega⟩⟩, fun _ u hu v hv p hp q hq => ?_⟩
  have hu := whT h.2.2.1 (by omega) hu
  have hv := whT h.2.2.2 (by omega) hv
  subst hu hv
  rw [valP_eq h] at hp
  rw [valQ_eq h] at hq
  subst hp hq
  have hin := val_in h
  refine ⟨hin, fun _ x y z hz => ?_⟩
  have hz := ratT hin.1 hin.2.1 hz
  show [x, y] = (ratF [valP a b, valQ a b]).take 2
  rw [← hz]; rfl
theorem cVal' : CC 72 s72 := by
  refine k72 tbC noI noM prC (by exact ⟨rfl, rfl, trivial⟩) (by exact ⟨fun h => (by cases h), fun _ _ _ => trivial, trivial⟩) rfl (by exact ⟨cUnits, cMakeR, trivial⟩) trivial (fun _ _ h _ => h) fun a b hx hl hp => ?_
  have h : VS a b := hp
  unfold p72
  intro v0 h0
  rw [top_eq (by omega)] at h0
  subst h0
  refine ⟨⟨⟨h.2.2.1, by omega⟩, ⟨h.2.2.2, by omega⟩⟩, fun _ u hu v hv x y z hz => ?_⟩
  have hu := unT h.2.2.1 (by omega) hu
  have hv := unT h.2.2.2 (by omega) hv
  subst hu hv
  rw [valP_eq h, valQ_eq h] at hz
  have hin := val_in h
  have hz := mkT hin.1 hin.2.1 hin.2.2 hz
  show [x, y] = (ratF [valP a b, valQ a b]).take 2
  rw [← hz]; rfl
theorem has2 {x y : Int} (h : I64 x) (k : I64 y) : allHas [i64, i64] [x, y] := ⟨h, k, trivial⟩
theorem vaT {a b : List Int} (h : VS a b) {x y : Int} (hy : [x, y] = tbC.outL 70 2 [] [a, b]) : [x, y] = val2 a b := by
  obtain ⟨u, v, e, h1, h2⟩ := val2_shape h
  exact outP (F := valF) (s := s70) rfl rfl rfl hy (by show allHas _ (val2 a b); rw [e]; exact has2 h1 h2)
theorem vaU {a b : List Int} (h : VS a b) {x y : Int} (hy : [x, y] = tbC.outL 72 2 [] [a, b]) : [x, y] = val2 a b := by
  obtain ⟨u, v, e, h1, h2⟩ := val2_shape h
  exact outP (F := valF) (s := s72) rfl rfl rfl hy (by show allHas _ (val2 a b); rw [e]; exact has2 h1 h2)
theorem cValW : CC 23 s23 := by
  refine k23 tbC noI noM prC (by exact ⟨rfl, rfl, trivial⟩) (by exact ⟨fun _ _ _ => trivial, fun h => (by cases h), trivial⟩) rfl (by exact ⟨cOk, cVal, trivial⟩) trivial (fun _ _ h _ => h) fun a b hx hl _ => ?_
  simp only [p23, decide_eq_true_eq, decide_eq_false_iff_not, Bool.not_eq_true', Bool.not_eq_false']
  rw [show tbC.app 23 [] [a, b] = if VS a b then val2 a b ++ [0] else [0, 0, 1] from rfl]
  intro v hv
  rw [one01 (okT hv)]
  refine ⟨fun h => by rw [if_neg h], fun h => ⟨h, fun _ x y hy => ?_⟩⟩
  rw [if_pos h, ← vaT h hy]; rfl
theorem cValW' : CC 25 s25 := by
  refine k25 tbC noI noM prC (by exact ⟨rfl, rfl, trivial⟩) (by exact ⟨fun _ _ _ => trivial, fun h => (by cases h), trivial⟩) rfl (by exact ⟨cVS, cVal', trivial⟩) trivial (fun _ _ h _ => h) fun a b hx hl _ => ?_
  simp only [p25, decide_eq_true_eq, decide_eq_false_iff_not, Bool.not_eq_true', Bool.not_eq_false']
  rw [show tbC.app 25 [] [a, b] = if VS a b then val2 a b ++ [0] else [0, 0, 1] from rfl]
  intro v hv
  rw [one01 (vsT hv)]
  refine ⟨fun h => by rw [if_neg h], fun h => ⟨h, fun _ x y hy => ?_⟩⟩
  rw [if_pos h, ← vaU h hy]; rfl
theorem valW_shape (a b : List Int) : ∃ x y z, valWF [] [a, b] = [x, y, z] ∧ I64 x ∧ I64 y ∧ I64 z := by
  simp only [valWF]
  split
  · rename_i h
    obtain ⟨x, y, e, h1, h2⟩ := val2_shape h
    exact ⟨x, y, 0, by rw [e]; rfl, h1, h2, by decide⟩
  · exact ⟨0, 0, 1, rfl, by decide, by decide, by decide⟩
theorem has3 {x y z : Int} (h : I64 x) (k : I64 y) (l : I64 z) : allHas [i64, i64, i64] [x, y, z] := ⟨h, k, l, trivial⟩
theorem eq2T {p q r s v : Int} (hv : [v] = tbC.out 20 1 [p, q, r, s]) : v = if p = r ∧ q = s then 1 else 0 := by
  have hv := outN (T := tbC) (g := 20) (F := eq2F) rfl rfl rfl rfl hv (bool_has _)
  simpa only [eq2F, List.cons.injEq, and_true] using hv
theorem fValue : CC 4 s4 := by
  refine k4 tbC noI noM prC (by exact ⟨rfl, rfl, rfl, rfl, rfl, trivial⟩) (by exact ⟨fun _ _ _ => trivial, fun _ _ _ => trivial, fun _ _ _ => trivial, fun _ _ _ => trivial, fun _ _ _ => trivial, trivial⟩) rfl
    (by exact ⟨cSzS, cValW, cValW', cEq2, cEqS, trivial⟩) (by exact ⟨toStream_cp, trivial⟩) (fun _ _ h _ => h) fun a b hx hl _ => ?_
  have ha : (a.length : Int) ≤ 9223372036854775807 := hl.1.2
  have hb : (b.length : Int) ≤ 9223372036854775807 := hl.2.1.2
  obtain ⟨x, y, z, e, h1, h2, h3⟩ := valW_shape a b
  simp only [p4, decide_eq_true_eq, decide_eq_false_iff_not, Bool.not_eq_true', Bool.not_eq_false']
  intro v hv
  have hv := szST hv
  subst hv
  refine ⟨fun _ => rfl, fun hn => ?_⟩
  obtain ⟨q1, q2, q3, q4⟩ := szV_le ⟨by decide, by decide⟩ ha hb hn
  have gab : (a.length : Int) ≤ 1099511627776 ∧ (b.length : Int) ≤ 1099511627776 := ⟨by omega, by omega⟩
  refine ⟨gab, fun _ u1 u2 u3 hu => ⟨gab, fun _ w1 w2 w3 hw => ?_⟩⟩
  have hu := outP (F := valWF) (s := s23) rfl rfl rfl hu (by rw [e]; exact has3 h1 h2 h3)
  have hw := outP (F := valWF) (s := s25) rfl rfl rfl hw (by rw [e]; exact has3 h1 h2 h3)
  rw [e] at hu hw
  simp only [List.cons.injEq, and_true] at hu hw
  obtain ⟨rfl, rfl, rfl⟩ := hu
  obtain ⟨rfl, rfl, rfl⟩ := hw
  intro t ht
  have ht := one01 (eq2T ht)
  rw [ht]
  refine ⟨fun _ => ⟨fun h => absurd rfl h, fun _ => ⟨gab, fun _ s hs => ?_⟩⟩, fun h => absurd ⟨rfl, rfl⟩ h⟩
  have hs := one01 (eqST hs)
  rw [hs]
  exact ⟨fun h => absurd ⟨rfl, rfl⟩ h, fun _ => rfl⟩

/-! ### Bounds of beginnings -/
theorem unit_eq {l : List Int} (h : (l.length : Int) ≤ 30) : IntKind.wrap .i64 (1 * (2 ^ ((if (l.length : Int) < 64 then (l.length : Int) else 64) : Int).toNat)) = (2 : Int) ^ l.length := by
  have pb := pow2_bd (n := l.length) (m := 30) (by omega)
  rw [if_pos (by omega), Int.toNat_natCast, Int.one_mul, W_id (x := 2 ^ l.length) (by omega)]
theorem bnd_in {l : List Int} (hd : Digs l) (h : (l.length : Int) ≤ 30) : (IntKind.wrap .i64 (whole l - 1) = whole l - 1 ∧ IntKind.wrap .i64 (whole l + 1) = whole l + 1) ∧ In18 (whole l - 1) ∧ In18 (whole l + 1) ∧ In18 ((2 : Int) ^ l.length) ∧ (2 : Int) ^ l.length ≠ 0 := by
  have h1 := whole_all hd
  have h2 := pow2_bd (n := l.length) (m := 30) (by omega)
  refine ⟨⟨W_id (by omega), W_id (by omega)⟩, by omega, by omega, by omega, by omega⟩
theorem bnd_shape (l : List Int) : ∃ x y z u v, bndF [] [l] = [x, y, z, u, v] ∧ I64 x ∧ I64 y ∧ I64 z ∧ I64 u ∧ I64 v := by
  simp only [bndF]
  split
  · rename_i hd
    split
    · exact ⟨_, _, _, _, _, rfl, by decide, by decide, by decide, by decide, by decide⟩
    · rename_i h
      obtain ⟨_, i1, i2, i3, _⟩ := bnd_in hd (by omega)
      obtain ⟨x, y, z, e, h1, h2, _⟩ := rat_shape i1 i3
      obtain ⟨x', y', z', e', h1', h2', _⟩ := rat_shape i2 i3
      exact ⟨x, y, x', y', 0, by rw [e, e']; rfl, h1, h2, h1', h2', by decide⟩
  · exact ⟨_, _, _, _, _, rfl, by decide, by decide, by decide, by decide, by decide⟩
theorem cBnd : CC 17 s17 := by
  refine k17 tbC noI noM prC (by exact ⟨rfl, rfl, rfl, trivial⟩) (by exact ⟨fun _ _ _ => trivial, fun h => (by cases h), fun h => (by cases h), trivial⟩) rfl (by exact ⟨cDig, cWhole, cMake, trivial⟩) trivial (fun _ _ h _ => h) fun l hx hl _ => ?_
  simp only [p17, decide_eq_true_eq, decide_eq_false_iff_not, Bool.not_eq_true', Bool.not_eq_false']
  rw [show tbC.app 17 [] [l] = if Digs l then (if 30 < (l.length : Int) then [0, 0, 0, 0, 3] else (ratF [whole l - 1, 2 ^ l.length]).take 2 ++ (ratF [whole l + 1, 2 ^ l.length]).take 2 ++ [0]) else [0, 0, 0, 0, 1] from rfl]
  intro v hv
  rw [one01 (digT hv)]
  refine ⟨fun h => by rw [if_neg h], fun h => ⟨fun k => by rw [if_pos h, if_pos k], fun k => ⟨⟨h, by omega⟩, fun _ w hw u hu => ?_⟩⟩⟩
  have hw := whT h (by omega) hw
  subst hw
  rw [unit_eq (by omega)] at hu
  subst hu
  obtain ⟨⟨e1, e2⟩, i1, i2, i3, i4⟩ := bnd_in h (by omega)
  rw [e1, e2, if_pos h, if_neg k]
  refine ⟨⟨i1, i3, i4⟩, fun _ a b c hc => ⟨⟨i2, i3, i4⟩, fun _ d e f hf => ?_⟩⟩
  rw [← ratT i1 i3 hc, ← ratT i2 i3 hf]; rfl
theorem cBnd' : CC 19 s19 := by
  refine k19 tbC noI noM prC (by exact ⟨rfl, rfl, rfl, trivial⟩) (by exact ⟨fun _ _ _ => trivial, fun h => (by cases h), fun _ _ _ => trivial, trivial⟩) rfl (by exact ⟨cCon, cUnits, cMakeR, trivial⟩) trivial (fun _ _ h _ => h) fun l hx hl _ => ?_
  simp only [p19, decide_eq_true_eq, decide_eq_false_iff_not, Bool.not_eq_true', Bool.not_eq_false']
  rw [show tbC.app 19 [] [l] = if Digs l then (if 30 < (l.length : Int) then [0, 0, 0, 0, 3] else (ratF [whole l - 1, 2 ^ l.length]).take 2 ++ (ratF [whole l + 1, 2 ^ l.length]).take 2 ++ [0]) else [0, 0, 0, 0, 1] from rfl]
  intro v hv
  rw [conT hv]
  refine ⟨fun h => by rw [if_neg h], fun h => ?_⟩
  have h : Digs l := Decidable.byContradiction h
  refine ⟨fun k => by rw [if_pos h, if_pos k], fun k => ⟨⟨h, by omega⟩, fun _ w hw u hu a b c hc d e f hf => ?_⟩⟩
  have hw := unT h (by omega) hw
  subst hw
  rw [unit_eq (by omega)] at hu
  subst hu
  obtain ⟨⟨e1, e2⟩, i1, i2, i3, i4⟩ := bnd_in h (by omega)
  rw [e1] at hc
  rw [e2] at hf
  rw [if_pos h, if_neg k, ← mkT i1 i3 i4 hc, ← mkT i2 i3 i4 hf]; rfl
theorem fBounds : CC 3 s3 := by
  refine k3 tbC noI noM prC (by exact ⟨rfl, rfl, rfl, rfl, trivial⟩) (by exact ⟨fun _ _ _ => trivial, fun _ _ _ => trivial, fun _ _ _ => trivial, fun _ _ _ => trivial, trivial⟩) rfl
    (by exact ⟨cBnd, cBnd', cEq2, cEq8S, trivial⟩) (by exact ⟨toInt8S_cp, trivial⟩) (fun _ _ h _ => h) fun l hx hl _ => ?_
  obtain ⟨x, y, z, u, v, e, h1, h2, h3, h4, h5⟩ := bnd_shape l
  simp only [p3, decide_eq_true_eq, decide_eq_false_iff_not, Bool.not_eq_true', Bool.not_eq_false']
  refine ⟨fun _ => rfl, fun hn => ?_⟩
  have g : (l.length : Int) ≤ 1099511627776 := by omega
  refine ⟨g, fun _ a1 a2 a3 a4 a5 ha => ⟨g, fun _ b1 b2 b3 b4 b5 hb => ?_⟩⟩
  have ha := outP (F := bndF) (s := s17) rfl rfl rfl ha (by rw [e]; exact ⟨h1, h2, h3, h4, h5, trivial⟩)
  have hb := outP (F := bndF) (s := s19) rfl rfl rfl hb (by rw [e]; exact ⟨h1, h2, h3, h4, h5, trivial⟩)
  rw [e] at ha hb
  simp only [List.cons.injEq, and_true] at ha hb
  obtain ⟨rfl, rfl, rfl, rfl, rfl⟩ := ha
  obtain ⟨rfl, rfl, rfl, rfl, rfl⟩ := hb
  intro t ht
  rw [one01 (eq2T ht)]
  refine ⟨fun _ s hs => ?_, fun h => absurd ⟨rfl, rfl⟩ h⟩
  rw [one01 (eq2T hs)]
  refine ⟨fun _ => ⟨fun h => absurd rfl h, fun _ => ⟨g, fun _ r hr => ?_⟩⟩, fun h => absurd ⟨rfl, rfl⟩ h⟩
  rw [one01 (eq8T hr)]
  exact ⟨fun h => absurd rfl h, fun _ => rfl⟩

/-! ### Order -/
theorem ord_shape {a b c d : List Int} (h : VS a b) (k : VS c d) : ∃ x y z u o, val2 a b = [x, y] ∧ val2 c d = [z, u] ∧ ordF [x, y, z, u] = [o] ∧ -1 ≤ o ∧ o ≤ 1 := by
  obtain ⟨x, y, e, _, _⟩ := val2_shape h
  obtain ⟨z, u, e', _, _⟩ := val2_shape k
  exact ⟨x, y, z, u, _, e, e', rfl, cmpI_bd _ _⟩
theorem cmpS_shape (a b c d : List Int) : ∃ x y, cmpSF [] [a, b, c, d] = [x, y] ∧ I64 x ∧ I64 y := by
  simp only [cmpSF]
  split
  · rename_i h
    obtain ⟨x, y, z, u, o, e, e', e2, o1, o2⟩ := ord_shape h.1 h.2
    exact ⟨o, 0, by rw [e, e', show [x, y] ++ [z, u] = [x, y, z, u] from rfl, e2]; rfl, by omega, by decide⟩
  · exact ⟨0, 1, rfl, by decide, by decide⟩
theorem cCmpS : CC 27 s27 := by
  refine k27 tbC noI noM prC (by exact ⟨rfl, rfl, rfl, trivial⟩) (by exact ⟨fun _ _ _ => trivial, fun h => (by cases h), fun _ _ _ => trivial, trivial⟩) rfl (by exact ⟨cOk, cVal, cOrd', trivial⟩) trivial (fun _ _ h _ => h) fun a b c d hx hl _ => ?_
  simp only [p27, decide_eq_true_eq, decide_eq_false_iff_not, Bool.not_eq_true', Bool.not_eq_false']
  rw [show tbC.app 27 [] [a, b, c, d] = if VS a b ∧ VS c d then ordF (val2 a b ++ val2 c d) ++ [0] else [0, 1] from rfl]
  intro v hv
  rw [one01 (okT hv)]
  refine ⟨fun h w hw => ?_, fun h => by rw [if_neg (fun e => h e.1)]⟩
  rw [one01 (okT hw)]
  refine ⟨fun k => by rw [if_neg (fun e => k e.2)], fun k => ⟨h, fun _ x y hy => ⟨k, fun _ z u hu o ho => ?_⟩⟩⟩
  have ho := outN (T := tbC) (g := 73) (F := ordF) rfl rfl rfl rfl ho (cmp_has _ _)
  rw [if_pos ⟨h, k⟩, ← vaT h hy, ← vaT k hu]
  show [o] ++ [0] = _
  rw [ho]; rfl
theorem cCmpS' : CC 28 s28 := by
  refine k28 tbC noI noM prC (by exact ⟨rfl, rfl, rfl, trivial⟩) (by exact ⟨fun _ _ _ => trivial, fun h => (by cases h), fun _ _ _ => trivial, trivial⟩) rfl (by exact ⟨cVS, cVal', cOrd, trivial⟩) trivial (fun _ _ h _ => h) fun a b c d hx hl _ => ?_
  simp only [p28, decide_eq_true_eq, decide_eq_false_iff_not, Bool.not_eq_true', Bool.not_eq_false']
  rw [show tbC.app 28 [] [a, b, c, d] = if VS a b ∧ VS c d then ordF (val2 a b ++ val2 c d) ++ [0] else [0, 1] from rfl]
  intro v hv
  rw [one01 (vsT hv)]
  refine ⟨fun h w hw => ?_, fun h => by rw [if_neg (fun e => h e.1)]⟩
  rw [one01 (vsT hw)]
  refine ⟨fun k => by rw [if_neg (fun e => k e.2)], fun k => ⟨⟨h, k⟩, fun _ x y hy z u hu o ho => ?_⟩⟩
  have ho := outN (T := tbC) (g := 74) (F := ordF) rfl rfl rfl rfl ho (cmp_has _ _)
  rw [if_pos ⟨h, k⟩, ← vaU h hy, ← vaU k hu]
  show [o] ++ [0] = _
  rw [ho]; rfl
theorem fCompare : CC 5 s5 := by
  refine k5 tbC noI noM prC (by exact ⟨rfl, rfl, rfl, rfl, trivial⟩) (by exact ⟨fun _ _ _ => trivial, fun _ _ _ => trivial, fun _ _ _ => trivial, fun _ _ _ => trivial, trivial⟩) rfl
    (by exact ⟨cSzS, cCmpS, cCmpS', cEqS, trivial⟩) (by exact ⟨toStream_cp, trivial⟩) (fun _ _ h _ => h) fun a b c d hx hl _ => ?_
  have ha : (a.length : Int) ≤ 9223372036854775807 := hl.1.2
  have hb : (b.length : Int) ≤ 9223372036854775807 := hl.2.1.2
  have hc : (c.length : Int) ≤ 9223372036854775807 := hl.2.2.1.2
  have hd : (d.length : Int) ≤ 9223372036854775807 := hl.2.2.2.1.2
  obtain ⟨x, y, e, h1, h2⟩ := cmpS_shape a b c d
  simp only [p5, decide_eq_true_eq, decide_eq_false_iff_not, Bool.not_eq_true', Bool.not_eq_false']
  intro v hv
  have hv := szST hv
  subst hv
  refine ⟨fun _ => rfl, fun hn => ?_⟩
  obtain ⟨q1, q2, q3, q4⟩ := szV_le ⟨by decide, by decide⟩ ha hb hn
  intro w hw
  have hw := szST hw
  subst hw
  refine ⟨fun _ => rfl, fun hn2 => ?_⟩
  obtain ⟨r1, r2, _, _⟩ := szV_le ⟨q3, q4⟩ hc hd hn2
  have g4 : (a.length : Int) ≤ 1099511627776 ∧ (b.length : Int) ≤ 1099511627776 ∧ (c.length : Int) ≤ 1099511627776 ∧ (d.length : Int) ≤ 1099511627776 := ⟨by omega, by omega, by omega, by omega⟩
  have gab : (a.length : Int) ≤ 1099511627776 ∧ (b.length : Int) ≤ 1099511627776 := ⟨by omega, by omega⟩
  have gcd : (c.length : Int) ≤ 1099511627776 ∧ (d.length : Int) ≤ 1099511627776 := ⟨by omega, by omega⟩
  refine ⟨g4, fun _ u1 u2 hu => ⟨gab, fun _ => ⟨gcd, fun _ w1 w2 hw => ?_⟩⟩⟩
  have hu := outP (F := cmpSF) (s := s27) rfl rfl rfl hu (by rw [e]; exact has2 h1 h2)
  have hw := outP (F := cmpSF) (s := s28) rfl rfl rfl hw (by rw [e]; exact has2 h1 h2)
  rw [e] at hu hw
  simp only [List.cons.injEq, and_true] at hu hw
  obtain ⟨rfl, rfl⟩ := hu
  obtain ⟨rfl, rfl⟩ := hw
  refine ⟨fun _ => ⟨fun h => absurd rfl h, fun _ => ⟨gab, fun _ s hs => ?_⟩⟩, fun h => absurd rfl h⟩
  rw [one01 (eqST hs)]
  refine ⟨fun h => absurd ⟨rfl, rfl⟩ h, fun _ => ⟨gcd, fun _ r hr => ?_⟩⟩
  rw [one01 (eqST hr)]
  exact ⟨fun h => absurd ⟨rfl, rfl⟩ h, fun _ => rfl⟩
end Go.Proofs.Ytjpcmjgogdemoaa.Sx
