/-
  Terms: the contracts.
-/
import Derived.Test.YtfkedgdmgimakaaDoorC0
namespace Go.Proofs.YtfkedgdmgimakaaDoor.Sx
open Go Go.RowKit
set_option linter.unusedVariables false
set_option linter.unusedSimpArgs false

theorem hasI {x : Int} (h : I64 x) : allHas [⟨-9223372036854775808, 9223372036854775807⟩] [x] := ⟨h, trivial⟩
theorem one01 {c : Prop} [Decidable c] {y : Int} (h : y = if c then 1 else 0) : y = 1 ↔ c := by
  rw [h]; split <;> simp_all
theorem out1 {g : Nat} {s : Sig} {F : LF} {xs : List Int} {ls : List (List Int)} {y z : Int} (h : tbC.sig g = some s) (hl : tbC.fl g = some F) (hn : (resKds s).length = 1) (hy : [y] = tbC.outL g 1 xs ls) (hz : F xs ls = [z]) (hr : allHas ((resKds s).map Kd.iv) [z]) : y = z := by
  have := outP h hl hn hy (by rw [hz]; exact hr)
  rw [hz] at this
  simpa using this
theorem size_has {x : Int} (h : I64 x) : allHas [i64] (sizeF [x]) := ⟨by
  show I64 (if x < 0 then W (0 - x) else x)
  split
  · exact W_has _
  · exact h, trivial⟩
theorem cSize : CC 15 s15 :=
  k15 tbC noI noM prC trivial trivial rfl trivial trivial (fun _ _ h _ => h) fun x hx _ _ => by
    unfold p15
    rw [show tbC.app 15 [x] [] = [if x < 0 then W (0 - x) else x] from rfl]
    refine ⟨fun h v hv => ?_, fun h => ?_⟩
    · rw [if_pos (of_decide_eq_true h), hv]
    · rw [if_neg (of_decide_eq_false h)]
theorem cWi : CC 17 s17 :=
  k17 tbC noI noM prC trivial trivial rfl trivial trivial (fun _ _ h _ => h) fun x m _ _ _ => by
    unfold p17
    rw [show tbC.app 17 [x, m] [] = [if W (0 - m) ≤ x ∧ x ≤ m then 1 else 0] from rfl]
    refine ⟨fun h => ?_, fun h => ?_⟩
    · have h := of_decide_eq_true h
      by_cases k : x ≤ m
      · rw [if_pos (decide_eq_true k), if_pos ⟨h, k⟩]
      · rw [if_neg (show ¬ (W (0 - m) ≤ x ∧ x ≤ m) from fun q => k q.2), if_neg (by simpa using k)]
    · have h := of_decide_eq_false h
      rw [if_neg (fun k => h k.1)]
theorem wiT {x m v : Int} (hv : [v] = tbC.out 17 1 [x, m]) : v = if W (0 - m) ≤ x ∧ x ≤ m then 1 else 0 := by
  have hv := outN (T := tbC) (g := 17) (F := wiF) rfl rfl rfl rfl hv (bool_has _)
  simpa only [wiF, List.cons.injEq, and_true] using hv
def invEq (_ : Nat) (ρ σ : Env) : Prop := match ρ.l, σ.i with
  | [a, b], [i] => 0 ≤ i ∧ i ≤ (a.length : Int) ∧ a.length = b.length ∧ ∀ j : Nat, (j : Int) < i → a[j]? = b[j]?
  | _, _ => False
def muEq (_ : Nat) (ρ σ : Env) : Nat := match ρ.l, σ.i with
  | a :: _, [i] => ((a.length : Int) - i).toNat
  | _, _ => 0
theorem getD_some {a : List Int} {n : Nat} (h : n < a.length) : a[n]? = some (a.getD n 0) := by
  rw [List.getD_eq_getElem?_getD, List.getElem?_eq_getElem h]; rfl
theorem cEq64S : CC 7 s7 := by
  refine k7 tbC invEq muEq prC trivial trivial rfl trivial trivial (fun _ _ h _ => h) fun a b hx hl _ => ?_
  have hlen : (a.length : Int) ≤ 9223372036854775807 := hl.1.2
  simp only [p7, decide_eq_true_eq, decide_eq_false_iff_not, Bool.not_eq_true', Bool.not_eq_false', Int.zero_add]
  show (_ → [0] = [if a = b then (1 : Int) else 0]) ∧ _
  refine ⟨fun h => ?_, fun h => ⟨⟨hasI ⟨by decide, by decide⟩, Int.le_refl _, by omega, by omega, fun j hj => by omega⟩, fun i hi hI => ?_⟩⟩
  · rw [if_neg (fun e => h (by rw [e]))]
  · obtain ⟨h1, h2, h3, h4⟩ : 0 ≤ i ∧ i ≤ (a.length : Int) ∧ a.length = b.length ∧ ∀ j : Nat, (j : Int) < i → a[j]? = b[j]? := hI
    obtain ⟨n, rfl⟩ := Int.eq_ofNat_of_zero_le h1
    refine ⟨fun hlt => ⟨⟨h1, hlt, hlt, h1, by omega, by omega⟩, fun _ x hx y hy => ?_⟩, fun hge => ?_⟩
    · have ha := getD_some (a := a) (n := n) (by omega)
      have hb := getD_some (a := b) (n := n) (by omega)
      rw [Int.toNat_natCast]
      refine ⟨fun hne => ?_, fun heq z hz => ?_⟩
      · show [0] = [if a = b then (1 : Int) else 0]
        rw [if_neg (fun e => hne (by rw [e]))]
      · rw [show IntKind.wrap .i64 ((n : Int) + 1) = (n : Int) + 1 from W_id ⟨by omega, by omega⟩] at hz
        subst hz
        refine ⟨hasI ⟨by omega, by omega⟩, ⟨by omega, by omega, h3, fun j hj => ?_⟩, ?_⟩
        · by_cases e : j = n
          · subst e; rw [ha, hb, heq]
          · exact h4 j (by omega)
        · show ((a.length : Int) - (n + 1)).toNat < ((a.length : Int) - n).toNat
          omega
    · show [1] = [if a = b then (1 : Int) else 0]
      rw [if_pos]
      refine List.ext_getElem? fun j => ?_
      by_cases hj : (j : Int) < n
      · exact h4 j hj
      · rw [List.getElem?_eq_none (by omega), List.getElem?_eq_none (by omega)]
theorem eq64T {y : Int} {a b : List Int} (hy : [y] = tbC.outL 7 1 [] [a, b]) : y = if a = b then 1 else 0 := out1 (F := eqF) (s := s7) rfl rfl rfl hy rfl (bool_has _)
def invT (_ : Nat) (ρ σ : Env) : Prop := match ρ.l, σ.i with
  | [l], [i] => 0 ≤ i ∧ i ≤ (l.length : Int) ∧ ∀ j : Nat, (j : Int) < i → TOk j (l.getD j 0)
  | _, _ => False
def muT (_ : Nat) (ρ σ : Env) : Nat := match ρ.l, σ.i with
  | l :: _, [i] => ((l.length : Int) - i).toNat
  | _, _ => 0
theorem tok_next {l : List Int} {n : Nat} (h4 : ∀ j : Nat, (j : Int) < n → TOk j (l.getD j 0)) (hn : TOk n (l.getD n 0)) : ∀ j : Nat, (j : Int) < (n : Int) + 1 → TOk j (l.getD j 0) := fun j hj => by
  by_cases e : j = n
  · subst e; exact hn
  · exact h4 j (by omega)
theorem size9 {x : Int} (hx : I64 x) : (if x < 0 then W (0 - x) else x) ≤ 1000000000 ∧ -1000000000 ≤ x ↔ In9 x := by
  by_cases h : x < 0
  · rw [if_pos h]
    by_cases k : x = -9223372036854775808
    · subst k; decide
    · rw [show W (0 - x) = 0 - x from W_id (by omega)]; omega
  · rw [if_neg h]; omega
theorem szN9 {x v : Int} (hx : I64 x) (hv : [v] = tbC.out 15 1 [x]) : v = if x < 0 then W (0 - x) else x := by
  have hv := outN (T := tbC) (g := 15) (F := sizeF) rfl rfl rfl rfl hv (size_has hx)
  simpa only [sizeF, List.cons.injEq, and_true] using hv
theorem getD_i64 {l : List Int} (h : ∀ x ∈ l, (kindsIv [.i64]).has x) (n : Nat) : I64 (l.getD n 0) := by
  rw [List.getD_eq_getElem?_getD]
  cases e : l[n]? with
  | none => exact ⟨by decide, by decide⟩
  | some x =>
    have := h x (List.mem_of_getElem? e)
    exact ⟨this.1, this.2⟩
theorem cTerms : CC 8 s8 := by
  refine k8 tbC invT muT prC ⟨rfl, trivial⟩ ⟨fun _ _ _ => trivial, trivial⟩ rfl ⟨cSize, trivial⟩ trivial (fun _ _ h _ => h) fun l hx hl _ => ?_
  have hk := hl.1.1
  simp only [p8, decide_eq_true_eq, decide_eq_false_iff_not, Bool.not_eq_true', Bool.not_eq_false', Int.zero_add]
  have no : ¬ VT l → [0] = tbC.app 8 [] [l] := fun h => by
    show [0] = [if VT l then (1 : Int) else 0]
    rw [if_neg h]
  have yes : ∀ x : Int, x = (if VT l then 1 else 0) → [x] = tbC.app 8 [] [l] := fun x h => by rw [h]; rfl
  intro v0 h0
  subst h0
  refine ⟨fun h1 => ⟨fun h2 => no fun e => by omega, fun h2 => ⟨⟨hasI ⟨by decide, by decide⟩, Int.le_refl _, by omega, fun j hj => by omega⟩, fun i hi hI => ?_⟩⟩, fun h1 => no fun e => h1 e.1.1⟩
  obtain ⟨g1, g2, g4⟩ : 0 ≤ i ∧ i ≤ (l.length : Int) ∧ ∀ j : Nat, (j : Int) < i → TOk j (l.getD j 0) := hI
  obtain ⟨n, rfl⟩ := Int.eq_ofNat_of_zero_le g1
  rw [Int.toNat_natCast]
  have bad : (n : Int) < l.length → ¬ TOk n (l.getD n 0) → [0] = tbC.app 8 [] [l] := fun hn h => no fun e => h (e.2.1 n (by omega))
  refine ⟨fun hlt => ⟨⟨g1, hlt⟩, fun _ => ⟨hlt, fun _ x hx v hv => ?_⟩⟩, fun hge => ?_⟩
  · subst hx
    have hk9 := size9 (getD_i64 hk n)
    have hv := szN9 (getD_i64 hk n) hv
    subst hv
    refine ⟨fun h3 => ⟨⟨g1, hlt⟩, fun _ => ⟨hlt, fun _ y hy => ?_⟩⟩, fun h3 => bad hlt fun e => h3 (hk9.2 e.1).1⟩
    subst hy
    refine ⟨fun h4 => ⟨fun h5 => ⟨hlt, fun _ => ⟨hlt, fun _ z hz => ?_⟩⟩, fun h5 => ?_⟩, fun h4 => bad hlt fun e => h4 (hk9.2 e.1).2⟩
    · subst hz
      refine ⟨fun h6 => bad hlt fun e => by have := e.2 (by omega); omega, fun h6 w hw => ?_⟩
      rw [show IntKind.wrap .i64 ((n : Int) + 1) = (n : Int) + 1 from W_id ⟨by omega, by omega⟩] at hw
      subst hw
      refine ⟨hasI ⟨by omega, by omega⟩, ⟨by omega, by omega, tok_next g4 ⟨hk9.1 ⟨h3, h4⟩, fun _ => by omega⟩⟩, ?_⟩
      show ((l.length : Int) - (n + 1)).toNat < ((l.length : Int) - n).toNat
      omega
    · refine ⟨hasI ⟨by omega, by omega⟩, ⟨by omega, by omega, tok_next g4 ⟨hk9.1 ⟨h3, h4⟩, fun k => by omega⟩⟩, ?_⟩
      show ((l.length : Int) - (n + 1)).toNat < ((l.length : Int) - n).toNat
      omega
  · have all : ∀ j, j < l.length → TOk j (l.getD j 0) := fun j hj => g4 j (by omega)
    refine ⟨fun h3 => ⟨by omega, fun _ => ⟨by omega, fun _ x hx => yes _ ?_⟩⟩, fun h3 => yes _ ?_⟩
    · rw [show (((l.length : Int) - 1).toNat) = l.length - 1 by omega] at hx
      subst hx
      by_cases h5 : 2 ≤ l.getD (l.length - 1) 0
      · rw [if_pos h5, if_pos ⟨⟨h1, by omega⟩, all, fun _ => h5⟩]
      · rw [if_neg h5, if_neg fun e => h5 (e.2.2 h3)]
    · rw [if_pos ⟨⟨h1, by omega⟩, all, fun h => absurd h3 h⟩]
theorem cVT' : CC 10 s10 := by
  refine k10 tbC invT muT prC ⟨rfl, trivial⟩ ⟨fun _ _ _ => trivial, trivial⟩ rfl ⟨cWi, trivial⟩ trivial (fun _ _ h _ => h) fun l hx hl _ => ?_
  have hk := hl.1.1
  simp only [p10, decide_eq_true_eq, decide_eq_false_iff_not, Bool.not_eq_true', Bool.not_eq_false', Int.zero_add]
  have no : ¬ VT l → [0] = tbC.app 10 [] [l] := fun h => by
    show [0] = [if VT l then (1 : Int) else 0]
    rw [if_neg h]
  have yes : ∀ x : Int, x = (if VT l then 1 else 0) → [x] = tbC.app 10 [] [l] := fun x h => by rw [h]; rfl
  refine ⟨fun h1 => ⟨fun h2 => no fun e => by omega, fun h2 => ⟨⟨hasI ⟨by decide, by decide⟩, Int.le_refl _, by omega, fun j hj => by omega⟩, fun i hi hI => ?_⟩⟩, fun h1 => no fun e => h1 e.1.1⟩
  obtain ⟨g1, g2, g4⟩ : 0 ≤ i ∧ i ≤ (l.length : Int) ∧ ∀ j : Nat, (j : Int) < i → TOk j (l.getD j 0) := hI
  obtain ⟨n, rfl⟩ := Int.eq_ofNat_of_zero_le g1
  rw [Int.toNat_natCast]
  have bad : (n : Int) < l.length → ¬ TOk n (l.getD n 0) → [0] = tbC.app 10 [] [l] := fun hn h => no fun e => h (e.2.1 n (by omega))
  have w9 : W (0 - 1000000000) = -1000000000 := (W_id (by omega)).trans (by omega)
  refine ⟨fun hlt => ⟨⟨g1, hlt⟩, fun _ => ⟨hlt, fun _ x hx v hv => ?_⟩⟩, fun hge => ?_⟩
  · subst hx
    have hv := wiT hv
    rw [w9] at hv
    rw [one01 hv]
    refine ⟨fun h3 => ⟨fun h5 => ⟨fun h6 => bad hlt fun e => by have := e.2 (by omega); omega, fun h6 => ?_⟩, fun h5 => ?_⟩, fun h3 => bad hlt fun e => h3 e.1⟩
    · rw [show IntKind.wrap .i64 ((n : Int) + 1) = (n : Int) + 1 from W_id ⟨by omega, by omega⟩]
      refine ⟨hasI ⟨by omega, by omega⟩, ⟨by omega, by omega, tok_next g4 ⟨h3, fun _ => by omega⟩⟩, ?_⟩
      show ((l.length : Int) - (n + 1)).toNat < ((l.length : Int) - n).toNat
      omega
    · refine ⟨hasI ⟨by omega, by omega⟩, ⟨by omega, by omega, tok_next g4 ⟨h3, fun k => by omega⟩⟩, ?_⟩
      show ((l.length : Int) - (n + 1)).toNat < ((l.length : Int) - n).toNat
      omega
  · have all : ∀ j, j < l.length → TOk j (l.getD j 0) := fun j hj => g4 j (by omega)
    refine ⟨fun h3 => ⟨⟨by omega, by omega⟩, fun _ => ⟨by omega, fun _ x hx => yes _ ?_⟩⟩, fun h3 => yes _ ?_⟩
    · rw [show (((l.length : Int) - 1).toNat) = l.length - 1 by omega] at hx
      subst hx
      by_cases h5 : 2 ≤ l.getD (l.length - 1) 0
      · rw [if_pos h5, if_pos ⟨⟨h1, by omega⟩, all, fun _ => h5⟩]
      · rw [if_neg h5, if_neg fun e => h5 (e.2.2 h3)]
    · rw [if_pos ⟨⟨h1, by omega⟩, all, fun h => absurd h3 h⟩]
theorem teT {y : Int} {a : List Int} (hy : [y] = tbC.outL 8 1 [] [a]) : y = if VT a then 1 else 0 := out1 (F := vtF) (s := s8) rfl rfl rfl hy rfl (bool_has _)
theorem vtT {y : Int} {a : List Int} (hy : [y] = tbC.outL 10 1 [] [a]) : y = if VT a then 1 else 0 := out1 (F := vtF) (s := s10) rfl rfl rfl hy rfl (bool_has _)
end Go.Proofs.YtfkedgdmgimakaaDoor.Sx
