/-
  Digits, streams: the contracts.
-/
import Derived.Test.YtfmbbioibdmhjaaC0
namespace Go.Proofs.Ytfmbbioibdmhjaa.Sx
open Go Go.RowKit
set_option linter.unusedVariables false
set_option linter.unusedSimpArgs false

theorem cIn3 : CC 16 s16 :=
  k16 tbC noI noM prC trivial trivial rfl trivial trivial (fun _ _ h _ => h) fun x a b _ _ _ => by
    unfold p16
    rw [show tbC.app 16 [x, a, b] [] = [if a ≤ x ∧ x ≤ b then 1 else 0] from rfl]
    refine ⟨fun h => ?_, fun h => ?_⟩
    · have h := of_decide_eq_true h
      by_cases k : x ≤ b <;> simp [h, k]
    · have h := of_decide_eq_false h
      rw [if_neg (fun k => h k.1)]
theorem in3T {x a b v : Int} (hv : [v] = tbC.out 16 1 [x, a, b]) : v = if a ≤ x ∧ x ≤ b then 1 else 0 := by
  have hv := outN (T := tbC) (g := 16) (F := in3F) rfl rfl rfl rfl hv (bool_has _)
  simpa only [in3F, List.cons.injEq, and_true] using hv
theorem hasI {x : Int} (h : I64 x) : allHas [⟨-9223372036854775808, 9223372036854775807⟩] [x] := ⟨h, trivial⟩
theorem one01 {c : Prop} [Decidable c] {y : Int} (h : y = if c then 1 else 0) : y = 1 ↔ c := by
  rw [h]; split <;> simp_all
theorem out1 {g : Nat} {s : Sig} {F : LF} {xs : List Int} {ls : List (List Int)} {y z : Int} (h : tbC.sig g = some s) (hl : tbC.fl g = some F) (hn : (resKds s).length = 1) (hy : [y] = tbC.outL g 1 xs ls) (hz : F xs ls = [z]) (hr : allHas ((resKds s).map Kd.iv) [z]) : y = z := by
  have := outP h hl hn hy (by rw [hz]; exact hr)
  rw [hz] at this
  simpa using this

theorem szI_has (x : Int) (l : List Int) : I64 (szI x l) := by
  unfold szI
  split
  · exact ⟨by decide, by decide⟩
  · exact W_has _
theorem szV_has (x : Int) (a b : List Int) : I64 (szV x a b) := by
  unfold szV
  split
  · exact ⟨by decide, by decide⟩
  · split
    · exact ⟨by decide, by decide⟩
    · exact szI_has _ _
theorem szI_le {x : Int} {l : List Int} (hx : 0 ≤ x ∧ x ≤ 1048576) (hl : (l.length : Int) ≤ 9223372036854775807) (h : ¬ szI x l < 0) : szI x l = x - l.length ∧ 0 ≤ x - l.length := by
  unfold szI at h ⊢
  have : W (x - l.length) = x - l.length := W_id ⟨by omega, by omega⟩
  rw [this] at h ⊢
  split at h
  · omega
  · rename_i h'
    rw [if_neg h']; exact ⟨rfl, by omega⟩
theorem szV_le {x : Int} {a b : List Int} (hx : 0 ≤ x ∧ x ≤ 1048576) (ha : (a.length : Int) ≤ 9223372036854775807) (hb : (b.length : Int) ≤ 9223372036854775807) (h : ¬ szV x a b < 0) :
    (a.length : Int) ≤ 1048576 ∧ (b.length : Int) ≤ 1048576 ∧ 0 ≤ szV x a b ∧ szV x a b ≤ 1048576 := by
  unfold szV at h ⊢
  have h0 : ¬ szI x a < 0 := fun e => h (by rw [if_pos e]; decide)
  rw [if_neg h0] at h ⊢
  have h1 : ¬ szI (szI x a) b < 0 := fun e => h (by rw [if_pos e]; decide)
  rw [if_neg h1] at h ⊢
  obtain ⟨e0, e1⟩ := szI_le hx ha h0
  obtain ⟨e2, e3⟩ := szI_le (x := szI x a) ⟨by omega, by omega⟩ hb h1
  omega
theorem cSzI : CC 9 s9 := by
  refine k9 tbC noI noM prC trivial trivial rfl trivial trivial (fun _ _ h _ => h) fun x l hx hl _ => ?_
  simp only [p9, decide_eq_true_eq, decide_eq_false_iff_not]
  intro y hy
  show (y < 0 → [-1] = [szI x l]) ∧ (¬ y < 0 → [y] = [szI x l])
  unfold szI
  rw [← show y = W (x - l.length) from hy]
  exact ⟨fun h => by rw [if_pos h], fun h => by rw [if_neg h]⟩
theorem szT {x y : Int} {l : List Int} (hy : [y] = tbC.outL 9 1 [x] [l]) : y = szI x l := out1 (F := szF) (s := s9) rfl rfl rfl hy rfl (hasI (szI_has _ _))
theorem cSzS : CC 4 s4 := by
  refine k4 tbC noI noM prC ⟨rfl, trivial⟩ ⟨fun _ _ _ => trivial, trivial⟩ rfl ⟨cSzI, trivial⟩ trivial (fun _ _ h _ => h) fun x a b hx hl _ => ?_
  simp only [p4, decide_eq_true_eq, decide_eq_false_iff_not]
  intro y hy
  have hy := szT hy
  subst hy
  show (_ → [-1] = [szV x a b]) ∧ (_ → ∀ v2 : Int, _ → (_ → [-1] = [szV x a b]) ∧ (_ → [_] = [szV x a b]))
  unfold szV
  refine ⟨fun h => by rw [if_pos h], fun h z hz => ?_⟩
  have hz := szT hz
  subst hz
  rw [if_neg h]
  exact ⟨fun h => by rw [if_pos h], fun h => by rw [if_neg h]⟩
theorem szST {x y : Int} {a b : List Int} (hy : [y] = tbC.outL 4 1 [x] [a, b]) : y = szV x a b := out1 (F := szSF) (s := s4) rfl rfl rfl hy rfl (hasI (szV_has _ _ _))

def invEq (_ : Nat) (ρ σ : Env) : Prop := match ρ.l, σ.i with
  | [a, b], [i] => 0 ≤ i ∧ i ≤ (a.length : Int) ∧ a.length = b.length ∧ ∀ j : Nat, (j : Int) < i → a[j]? = b[j]?
  | _, _ => False
def muEq (_ : Nat) (ρ σ : Env) : Nat := match ρ.l, σ.i with
  | a :: _, [i] => ((a.length : Int) - i).toNat
  | _, _ => 0
theorem getD_some {a : List Int} {n : Nat} (h : n < a.length) : a[n]? = some (a.getD n 0) := by
  rw [List.getD_eq_getElem?_getD, List.getElem?_eq_getElem h]; rfl
theorem cEq8S : CC 15 s15 := by
  refine k15 tbC invEq muEq prC trivial trivial rfl trivial trivial (fun _ _ h _ => h) fun a b hx hl _ => ?_
  have hlen : (a.length : Int) ≤ 9223372036854775807 := hl.1.2
  simp only [p15, decide_eq_true_eq, decide_eq_false_iff_not, Bool.not_eq_true', Bool.not_eq_false', Int.zero_add]
  show (_ → [0] = [if a = b then (1 : Int) else 0]) ∧ _
  refine ⟨fun h => ?_, fun h => ⟨⟨hasI ⟨by decide, by decide⟩, Int.le_refl _, by omega, by omega, fun j hj => by omega⟩, fun i hi hI => ?_⟩⟩
  · rw [if_neg (fun e => h (by rw [e]))]
  · obtain ⟨h1, h2, h3, h4⟩ : 0 ≤ i ∧ i ≤ (a.length : Int) ∧ a.length = b.length ∧ ∀ j : Nat, (j : Int) < i → a[j]? = b[j]? := hI
    obtain ⟨n, rfl⟩ := Int.eq_ofNat_of_zero_le h1
    refine ⟨fun hlt => ⟨⟨h1, hlt, hlt, h1, by omega, by omega⟩, fun _ x hx y hy => ?_⟩, fun hge => ?_⟩
    · have ha := getD_some (a := a) (n := n) (by omega)
      have hb := getD_some (a := b) (n := n) (by omega)
      rw [Int.toNat_natCast]
      refine ⟨fun hne => ?_, fun heq z hz => ?_⟩
      · show [0] = [if a = b then (1 : Int) else 0]
        rw [if_neg (fun e => hne (by rw [e]))]
      · rw [show IntKind.wrap .i64 ((n : Int) + 1) = (n : Int) + 1 from W_id ⟨by omega, by omega⟩] at hz
        subst hz
        refine ⟨hasI ⟨by omega, by omega⟩, ⟨by omega, by omega, h3, fun j hj => ?_⟩, ?_⟩
        · by_cases e : j = n
          · subst e; rw [ha, hb, heq]
          · exact h4 j (by omega)
        · show ((a.length : Int) - (n + 1)).toNat < ((a.length : Int) - n).toNat
          omega
    · show [1] = [if a = b then (1 : Int) else 0]
      rw [if_pos]
      refine List.ext_getElem? fun j => ?_
      by_cases hj : (j : Int) < n
      · exact h4 j hj
      · rw [List.getElem?_eq_none (by omega), List.getElem?_eq_none (by omega)]
theorem eq8T {y : Int} {a b : List Int} (hy : [y] = tbC.outL 15 1 [] [a, b]) : y = if a = b then 1 else 0 := out1 (F := eqF) (s := s15) rfl rfl rfl hy rfl (bool_has _)
theorem cEqS : CC 8 s8 := by
  refine k8 tbC noI noM prC ⟨rfl, trivial⟩ ⟨fun _ _ _ => trivial, trivial⟩ rfl ⟨cEq8S, trivial⟩ trivial (fun _ _ h _ => h) fun a b c d hx hl _ => ?_
  simp only [p8, decide_eq_true_eq, decide_eq_false_iff_not, Bool.not_eq_true', Bool.not_eq_false']
  show ∀ v0 : Int, _ → (_ → [0] = [if a = c ∧ b = d then (1 : Int) else 0]) ∧ _
  intro y hy
  have hy := eq8T hy
  refine ⟨fun h => ?_, fun h z hz => ?_⟩
  · rw [one01 hy] at h
    rw [if_neg (fun e => h e.1)]
  · rw [one01 hy] at h
    have hz := eq8T hz
    rw [one01 hz]
    show (_ → [0] = [if a = c ∧ b = d then (1 : Int) else 0]) ∧ (_ → [1] = [if a = c ∧ b = d then (1 : Int) else 0])
    exact ⟨fun h' => by rw [if_neg (fun e => h' e.2)], fun h' => by rw [if_pos ⟨h, h'⟩]⟩
theorem eqST {y : Int} {a b c d : List Int} (hy : [y] = tbC.outL 8 1 [] [a, b, c, d]) : y = if a = c ∧ b = d then 1 else 0 := out1 (F := eqSF) (s := s8) rfl rfl rfl hy rfl (bool_has _)

/-! ### Digits -/
def invD (_ : Nat) (ρ σ : Env) : Prop := match ρ.l, σ.i with
  | [a], [i] => 0 ≤ i ∧ i ≤ (a.length : Int) ∧ ∀ j : Nat, (j : Int) < i → -1 ≤ a.getD j 0 ∧ a.getD j 0 ≤ 1
  | _, _ => False
theorem getD_mem {a : List Int} {n : Nat} (h : n < a.length) : a.getD n 0 ∈ a := by
  rw [List.getD_eq_getElem?_getD, List.getElem?_eq_getElem h]; exact List.getElem_mem h
theorem digs_of {a : List Int} {n : Nat} (h : a.length ≤ n) (h4 : ∀ j : Nat, (j : Int) < n → -1 ≤ a.getD j 0 ∧ a.getD j 0 ≤ 1) : Digs a := fun x hx => by
  obtain ⟨j, hj, rfl⟩ := List.getElem_of_mem hx
  have := h4 j (by omega)
  rwa [List.getD_eq_getElem?_getD, List.getElem?_eq_getElem hj] at this
theorem cDig : CC 17 s17 := by
  refine k17 tbC invD muEq prC trivial trivial rfl trivial trivial (fun _ _ h _ => h) fun a hx hl _ => ?_
  have hlen : (a.length : Int) ≤ 9223372036854775807 := hl.1.2
  simp only [p17, decide_eq_true_eq, decide_eq_false_iff_not, Bool.not_eq_true', Bool.not_eq_false', Int.zero_add]
  refine ⟨⟨hasI ⟨by decide, by decide⟩, Int.le_refl _, by omega, fun j hj => by omega⟩, fun i hi hI => ?_⟩
  obtain ⟨h1, h2, h4⟩ : 0 ≤ i ∧ i ≤ (a.length : Int) ∧ ∀ j : Nat, (j : Int) < i → -1 ≤ a.getD j 0 ∧ a.getD j 0 ≤ 1 := hI
  obtain ⟨n, rfl⟩ := Int.eq_ofNat_of_zero_le h1
  rw [Int.toNat_natCast]
  have no : ∀ (hlt : (n : Int) < a.length), ¬ (-1 ≤ a.getD n 0 ∧ a.getD n 0 ≤ 1) → [0] = tbC.app 17 [] [a] := fun hlt h => by
    show [0] = [if Digs a then (1 : Int) else 0]
    rw [if_neg fun e => h (e _ (getD_mem (by omega)))]
  refine ⟨fun hlt => ⟨⟨h1, hlt⟩, fun _ => ⟨hlt, fun _ x hx => ⟨fun hm => ⟨⟨h1, hlt⟩, fun _ => ⟨hlt, fun _ y hy => ⟨fun hg => ?_, fun hg z hz => ?_⟩⟩⟩, fun hm => ?_⟩⟩⟩, fun hge => ?_⟩
  · subst hx hy; exact no hlt (fun e => by omega)
  · subst hx hy
    rw [show IntKind.wrap .i64 ((n : Int) + 1) = (n : Int) + 1 from W_id ⟨by omega, by omega⟩] at hz
    subst hz
    refine ⟨hasI ⟨by omega, by omega⟩, ⟨by omega, by omega, fun j hj => ?_⟩, ?_⟩
    · by_cases e : j = n
      · subst e; exact ⟨hm, by omega⟩
      · exact h4 j (by omega)
    · show ((a.length : Int) - (n + 1)).toNat < ((a.length : Int) - n).toNat
      omega
  · subst hx; exact no hlt (fun e => hm e.1)
  · show [1] = [if Digs a then (1 : Int) else 0]
    rw [if_pos (digs_of (n := n) (by omega) h4)]
theorem digT {y : Int} {a : List Int} (hy : [y] = tbC.outL 17 1 [] [a]) : y = if Digs a then 1 else 0 := out1 (F := digF) (s := s17) rfl rfl rfl hy rfl (bool_has _)
theorem cNo : CC 19 s19 := by
  refine k19 tbC noI noM prC trivial trivial rfl trivial trivial (fun _ _ h _ => h) fun x hx hl _ => ?_
  simp only [p19, decide_eq_true_eq, decide_eq_false_iff_not]
  show (_ → [_] = [if -1 ≤ x ∧ x ≤ 1 then (0 : Int) else 1]) ∧ (_ → [1] = [if -1 ≤ x ∧ x ≤ 1 then (0 : Int) else 1])
  refine ⟨fun h => ?_, fun h => ?_⟩
  · by_cases h' : 1 < x
    · rw [if_pos h', if_neg (by omega)]
    · rw [if_neg h', if_pos (by omega)]
  · rw [if_neg (fun e => h e.1)]
theorem cIdx : CC 22 s22 := by
  refine k22 tbC invD muEq prC ⟨rfl, trivial⟩ ⟨fun _ _ _ => trivial, trivial⟩ rfl ⟨cNo, trivial⟩ trivial (fun _ _ h _ => h) fun a hx hl _ => ?_
  have hlen : (a.length : Int) ≤ 9223372036854775807 := hl.1.2
  simp only [p22, decide_eq_true_eq, decide_eq_false_iff_not, Int.zero_add]
  refine ⟨⟨hasI ⟨by decide, by decide⟩, Int.le_refl _, by omega, fun j hj => by omega⟩, fun i hi hI => ?_⟩
  obtain ⟨h1, h2, h4⟩ : 0 ≤ i ∧ i ≤ (a.length : Int) ∧ ∀ j : Nat, (j : Int) < i → -1 ≤ a.getD j 0 ∧ a.getD j 0 ≤ 1 := hI
  obtain ⟨n, rfl⟩ := Int.eq_ofNat_of_zero_le h1
  rw [Int.toNat_natCast]
  have gd : ∀ j (hj : j < a.length), a.getD j 0 = a[j] := fun j hj => by rw [List.getD_eq_getElem?_getD, List.getElem?_eq_getElem hj]; rfl
  refine ⟨fun hlt => ⟨⟨h1, hlt⟩, fun _ => ⟨hlt, fun _ x hx y hy => ?_⟩⟩, fun hge => ?_⟩
  · have hy := outN (T := tbC) (g := 19) (F := noF) rfl rfl rfl rfl hy (by
      refine ⟨?_, trivial⟩
      split <;> exact ⟨by decide, by decide⟩)
    simp only [noF, List.cons.injEq, and_true] at hy
    refine ⟨fun h => ?_, fun h => ?_⟩
    · have hb : ¬ (-1 ≤ x ∧ x ≤ 1) := fun e => by rw [if_pos e] at hy; omega
      show [(n : Int)] = [idx a]
      have : a.findIdx? (fun x => !decide (-1 ≤ x ∧ x ≤ 1)) = some n := by
        rw [List.findIdx?_eq_some_iff_getElem]
        refine ⟨by omega, ?_, fun j hj => ?_⟩
        · rw [← gd n (by omega), ← hx]; simp; omega
        · have := h4 j (by omega)
          rw [gd j (by omega)] at this
          simpa using this
      unfold idx
      rw [this]
    · have hg : -1 ≤ x ∧ x ≤ 1 := by
        apply Decidable.byContradiction
        intro e
        rw [if_neg e] at hy; exact h hy
      rw [show IntKind.wrap .i64 ((n : Int) + 1) = (n : Int) + 1 from W_id ⟨by omega, by omega⟩]
      refine ⟨hasI ⟨by omega, by omega⟩, ⟨by omega, by omega, fun j hj => ?_⟩, ?_⟩
      · by_cases e : j = n
        · subst e; rw [← hx]; exact hg
        · exact h4 j (by omega)
      · show ((a.length : Int) - (n + 1)).toNat < ((a.length : Int) - n).toNat
        omega
  · show [-1] = [idx a]
    have hd := digs_of (a := a) (n := n) (by omega) h4
    have : a.findIdx? (fun x => !decide (-1 ≤ x ∧ x ≤ 1)) = none := by
      rw [List.findIdx?_eq_none_iff]
      intro x hx
      simpa using hd x hx
    unfold idx
    rw [this]
theorem idx_neg (a : List Int) : 0 ≤ idx a ↔ ¬ Digs a := by
  unfold idx
  cases h : a.findIdx? (fun x => !decide (-1 ≤ x ∧ x ≤ 1)) with
  | none =>
    rw [List.findIdx?_eq_none_iff] at h
    have : Digs a := fun x hx => by simpa using h x hx
    simp [this]
  | some i =>
    rw [List.findIdx?_eq_some_iff_getElem] at h
    obtain ⟨hi, h1, _⟩ := h
    have : ¬ Digs a := fun e => by
      have := e _ (List.getElem_mem hi)
      simp [this] at h1
    simp [this]
theorem idx_has (a : List Int) (h : (a.length : Int) ≤ 9223372036854775807) : I64 (idx a) := by
  unfold idx
  cases e : a.findIdx? (fun x => !decide (-1 ≤ x ∧ x ≤ 1)) with
  | none => exact ⟨by decide, by decide⟩
  | some i =>
    rw [List.findIdx?_eq_some_iff_getElem] at e
    obtain ⟨hi, _, _⟩ := e
    exact ⟨by simp only; omega, by simp only; omega⟩
theorem cCon : CC 18 s18 := by
  refine k18 tbC noI noM prC ⟨rfl, trivial⟩ ⟨fun _ _ _ => trivial, trivial⟩ rfl ⟨cIdx, trivial⟩ trivial (fun _ _ h _ => h) fun a hx hl _ => ?_
  simp only [p18, decide_eq_true_eq]
  intro y hy
  have hy := out1 (F := idxF) (s := s22) rfl rfl rfl hy rfl (hasI (idx_has a hl.1.2))
  subst hy
  show [_] = [if Digs a then (0 : Int) else 1]
  by_cases h : Digs a
  · rw [if_pos h, if_neg (by rw [idx_neg]; simpa using h)]
  · rw [if_neg h, if_pos (by rw [idx_neg]; exact h)]
theorem conT {y : Int} {a : List Int} (hy : [y] = tbC.outL 18 1 [] [a]) : y = 1 ↔ ¬ Digs a := by
  have := out1 (F := conF) (s := s18) rfl rfl rfl hy (z := if Digs a then 0 else 1) rfl (by
    refine ⟨?_, trivial⟩
    split <;> exact ⟨by decide, by decide⟩)
  rw [this]; split <;> simp_all
theorem cOk : CC 10 s10 := by
  refine k10 tbC noI noM prC (by exact ⟨rfl, rfl, trivial⟩) (by exact ⟨fun _ _ _ => trivial, fun _ _ _ => trivial, trivial⟩) rfl (by exact ⟨cIn3, cDig, trivial⟩) trivial (fun _ _ h _ => h) fun a b hx hl _ => ?_
  simp only [p10, decide_eq_true_eq, decide_eq_false_iff_not]
  have no : ¬ VS a b → [0] = tbC.app 10 [] [a, b] := fun h => by
    show [0] = [if VS a b then (1 : Int) else 0]
    rw [if_neg h]
  refine ⟨fun h1 x hx => ?_, fun h1 => no fun e => h1 e.1⟩
  have hx := in3T hx
  rw [one01 hx]
  refine ⟨fun h2 y hy => ?_, fun h2 => no fun e => h2 e.2.1⟩
  have hy := digT hy
  rw [one01 hy]
  refine ⟨fun h3 z hz => ?_, fun h3 => no fun e => h3 e.2.2.1⟩
  have hz := digT hz
  show [z] = [if VS a b then (1 : Int) else 0]
  rw [hz]
  by_cases h4 : Digs b
  · rw [if_pos h4, if_pos ⟨h1, h2, h3, h4⟩]
  · rw [if_neg h4, if_neg (fun e => h4 e.2.2.2)]
theorem cVS : CC 13 s13 := by
  refine k13 tbC noI noM prC ⟨rfl, trivial⟩ ⟨fun _ _ _ => trivial, trivial⟩ rfl ⟨cCon, trivial⟩ trivial (fun _ _ h _ => h) fun a b hx hl _ => ?_
  simp only [p13, decide_eq_true_eq, decide_eq_false_iff_not, Bool.not_eq_true', Bool.not_eq_false']
  have no : ¬ VS a b → [0] = tbC.app 13 [] [a, b] := fun h => by
    show [0] = [if VS a b then (1 : Int) else 0]
    rw [if_neg h]
  refine ⟨fun h1 => ⟨fun h2 => ⟨fun h3 => no fun e => by omega, fun h3 y hy => ?_⟩, fun h2 => no fun e => h2 e.2.1.1⟩, fun h1 => no fun e => h1 e.1⟩
  have hy := conT hy
  rw [hy]
  refine ⟨fun h4 z hz => ?_, fun h4 => no fun e => h4 e.2.2.1⟩
  have hz := conT hz
  have h4 : Digs a := Decidable.byContradiction h4
  show [_] = [if VS a b then (1 : Int) else 0]
  by_cases h5 : Digs b
  · rw [if_pos (show ¬ z = 1 by rw [hz]; simpa using h5), if_pos ⟨h1, ⟨h2, by omega⟩, h4, h5⟩]
  · rw [if_neg (show ¬ ¬ z = 1 by rw [hz]; simpa using h5), if_neg (fun e => h5 e.2.2.2)]
theorem okT {y : Int} {a b : List Int} (hy : [y] = tbC.outL 10 1 [] [a, b]) : y = if VS a b then 1 else 0 := out1 (F := vsF) (s := s10) rfl rfl rfl hy rfl (bool_has _)
theorem vsT {y : Int} {a b : List Int} (hy : [y] = tbC.outL 13 1 [] [a, b]) : y = if VS a b then 1 else 0 := out1 (F := vsF) (s := s13) rfl rfl rfl hy rfl (bool_has _)
end Go.Proofs.Ytfmbbioibdmhjaa.Sx
