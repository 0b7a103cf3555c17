/-
  Terms as lists of nodes: sizes, equality, copies, and the law that two terms are the same.
-/
import Derived.Test.YtcggjbabokhbnaaT0
import Derived.Test.YtcggjbabokhbnaaA1
namespace Go.Proofs.Ytcggjbabokhbnaa.Sx
open Go Go.RowKit
set_option linter.unusedVariables false
set_option linter.unusedSimpArgs false

theorem one01 {c : Prop} [Decidable c] {y : Int} (h : y = if c then 1 else 0) : y = 1 ↔ c := by
  rw [h]; split <;> simp_all
theorem hasI {x : Int} (h : I64 x) : allHas [⟨-9223372036854775808, 9223372036854775807⟩] [x] := ⟨h, trivial⟩
abbrev ndK : List IntKind := [.i8, .i16, .i16, .i64, .i64]
abbrev W8 (x : Int) : Int := IntKind.wrap .i8 x
abbrev W16 (x : Int) : Int := IntKind.wrap .i16 x
def EqAt (a b : List Int) (n : Nat) : Prop := W8 (a.getD (n * 5) 0) = W8 (b.getD (n * 5) 0) ∧ W16 (a.getD (n * 5 + 1) 0) = W16 (b.getD (n * 5 + 1) 0) ∧ W16 (a.getD (n * 5 + 2) 0) = W16 (b.getD (n * 5 + 2) 0) ∧ a.getD (n * 5 + 3) 0 = b.getD (n * 5 + 3) 0 ∧ a.getD (n * 5 + 4) 0 = b.getD (n * 5 + 4) 0
def SameN (a b : List Int) : Prop := (a.length : Int) / 5 = (b.length : Int) / 5 ∧ ∀ n : Nat, (n : Int) < (a.length : Int) / 5 → EqAt a b n
instance (a b : List Int) (n : Nat) : Decidable (EqAt a b n) := inferInstanceAs (Decidable (_ ∧ _))
noncomputable instance (a b : List Int) : Decidable (SameN a b) := Classical.propDecidable _
noncomputable def sameF : LF
  | [], [a, b] => [if SameN a b then 1 else 0]
  | _, _ => []
theorem SameN.refl (a : List Int) : SameN a a := ⟨rfl, fun n _ => ⟨rfl, rfl, rfl, rfl, rfl⟩⟩
def sz5 (x : Int) (l : List Int) : Int := if W (x - (l.length : Int) / 5) < 0 then -1 else W (x - (l.length : Int) / 5)
def szF : LF
  | [x], [l] => [sz5 x l]
  | _, _ => []
def lawF : LF := fun _ _ => [1]
def idF (xs : List Int) : List Int := xs
def eq5F : List Int → List Int
  | [a, b, c, d, e, a', b', c', d', e'] => [if a = a' ∧ b = b' ∧ c = c' ∧ d = d' ∧ e = e' then 1 else 0]
  | _ => []
noncomputable def tbN : Tab := ⟨sigOf [(28, s28), (8, s8), (30, s30), (12, s12), (9, s9), (29, s29), (11, s11), (3, s3)],
  lookU [(28, idF), (30, eq5F)] (fun _ _ => []),
  lookL [(8, szF), (12, sameF), (9, sameF), (29, sameF), (11, sameF), (3, lawF)]⟩
def prN : Nat → LQ := fun _ _ _ => True
abbrev CN (g : Nat) (s : Sig) : Prop := CT Try.prog tbN.fns (presQ prN) g s

theorem cToNode : CN 28 s28 :=
  k28 tbN noI noM prN trivial trivial rfl trivial trivial (fun _ _ h _ => h) fun a b c d e _ _ _ => by
    unfold p28; rfl
theorem cEqNode : CN 30 s30 :=
  k30 tbN noI noM prN trivial trivial rfl trivial trivial (fun _ _ h _ => h) fun a b c d e a' b' c' d' e' _ _ _ => by
    unfold p30
    rw [show tbN.app 30 [a, b, c, d, e, a', b', c', d', e'] [] = [if a = a' ∧ b = b' ∧ c = c' ∧ d = d' ∧ e = e' then 1 else 0] from rfl]
    simp only [Bool.not_eq_true', Bool.not_eq_false', decide_eq_true_eq, decide_eq_false_iff_not]
    refine ⟨fun h => by rw [if_neg (fun e => h e.1)], fun h => ⟨fun h2 => by rw [if_neg (fun e => h2 e.2.1)], fun h2 => ⟨fun h3 => by rw [if_neg (fun e => h3 e.2.2.1)], fun h3 => ⟨fun h4 => by rw [if_neg (fun e => h4 e.2.2.2.1)], fun h4 => ⟨fun h5 => by rw [if_neg (fun e => h5 e.2.2.2.2)], fun h5 => by rw [if_pos ⟨h, h2, h3, h4, h5⟩]⟩⟩⟩⟩⟩
theorem cSz : CN 8 s8 := by
  refine k8 tbN noI noM prN trivial trivial rfl trivial trivial (fun _ _ h _ => h) fun x l hx hl _ => ?_
  simp only [p8, decide_eq_true_eq, decide_eq_false_iff_not]
  intro y hy
  show (y < 0 → [-1] = [sz5 x l]) ∧ (¬ y < 0 → [y] = [sz5 x l])
  unfold sz5
  rw [← show y = W (x - (l.length : Int) / 5) from hy]
  exact ⟨fun h => by rw [if_pos h], fun h => by rw [if_neg h]⟩
theorem sz5_has (x : Int) (l : List Int) : I64 (sz5 x l) := by
  unfold sz5
  split
  · exact ⟨by decide, by decide⟩
  · exact W_has _
theorem szT {x y : Int} {l : List Int} (hy : [y] = tbN.outL 8 1 [x] [l]) : y = sz5 x l := by
  have := outP (F := szF) (s := s8) rfl rfl rfl hy (hasI (sz5_has _ _))
  simpa only [szF, List.cons.injEq, and_true] using this
theorem sz5_le {x : Int} {l : List Int} (hx : 0 ≤ x ∧ x ≤ 1048576) (hl : (l.length : Int) ≤ 9223372036854775807 * 5) (h : ¬ sz5 x l < 0) : sz5 x l = x - (l.length : Int) / 5 ∧ 0 ≤ x - (l.length : Int) / 5 := by
  unfold sz5 at h ⊢
  have : W (x - (l.length : Int) / 5) = x - (l.length : Int) / 5 := W_id ⟨by omega, by omega⟩
  rw [this] at h ⊢
  split at h
  · omega
  · rename_i h'
    rw [if_neg h']; exact ⟨rfl, by omega⟩

/-! ### Equality -/
def invS (_ : Nat) (ρ σ : Env) : Prop := match ρ.l, σ.i with
  | [a, b], [i] => 0 ≤ i ∧ i ≤ (a.length : Int) / 5 ∧ (a.length : Int) / 5 = (b.length : Int) / 5 ∧ ∀ j : Nat, (j : Int) < i → EqAt a b j
  | _, _ => False
def muS (_ : Nat) (ρ σ : Env) : Nat := match ρ.l, σ.i with
  | a :: _, [i] => ((a.length : Int) / 5 - i).toNat
  | _, _ => 0
theorem tn0 (n : Nat) : ((n : Int) * 5).toNat = n * 5 := by omega
theorem tn1 (n : Nat) : ((n : Int) * 5 + 1).toNat = n * 5 + 1 := by omega
theorem tn2 (n : Nat) : ((n : Int) * 5 + 2).toNat = n * 5 + 2 := by omega
theorem tn3 (n : Nat) : ((n : Int) * 5 + 3).toNat = n * 5 + 3 := by omega
theorem tn4 (n : Nat) : ((n : Int) * 5 + 4).toNat = n * 5 + 4 := by omega
theorem eq_next {a b : List Int} {n : Nat} (h4 : ∀ j : Nat, (j : Int) < n → EqAt a b j) (hn : EqAt a b n) : ∀ j : Nat, (j : Int) < (n : Int) + 1 → EqAt a b j := fun j hj => by
  by_cases e : j = n
  · subst e; exact hn
  · exact h4 j (by omega)
theorem same_no {a b : List Int} {n : Nat} (hn : (n : Int) < (a.length : Int) / 5) (h : ¬ EqAt a b n) : ([0] : List Int) = sameF [] [a, b] := by
  show [0] = [if SameN a b then (1 : Int) else 0]
  rw [if_neg (fun e => h (e.2 n hn))]
theorem same_len {a b : List Int} (h : ¬ (a.length : Int) / 5 = (b.length : Int) / 5) : ([0] : List Int) = sameF [] [a, b] := by
  show [0] = [if SameN a b then (1 : Int) else 0]
  rw [if_neg (fun e => h e.1)]
theorem same_yes {a b : List Int} {n : Nat} (hl : (a.length : Int) / 5 = (b.length : Int) / 5) (hn : ¬ (n : Int) < (a.length : Int) / 5) (h4 : ∀ j : Nat, (j : Int) < n → EqAt a b j) : ([1] : List Int) = sameF [] [a, b] := by
  show [1] = [if SameN a b then (1 : Int) else 0]
  rw [if_pos ⟨hl, fun j hj => h4 j (by omega)⟩]
theorem cSame : CN 9 s9 := by
  refine k9 tbN invS muS prN trivial trivial rfl trivial trivial (fun _ _ h _ => h) fun a b hx hl _ => ?_
  have hlen : (a.length : Int) ≤ 9223372036854775807 * 5 := hl.1.2
  have hb : (b.length : Int) ≤ 9223372036854775807 * 5 := hl.2.1.2
  simp only [p9, decide_eq_true_eq, decide_eq_false_iff_not, Bool.not_eq_true', Bool.not_eq_false', Int.zero_add]
  refine ⟨fun h => same_len h, fun h => ⟨⟨hasI ⟨by decide, by decide⟩, Int.le_refl _, by omega, h, fun j hj => by omega⟩, fun i hi hI => ?_⟩⟩
  obtain ⟨h1, h2, h3, h4⟩ : 0 ≤ i ∧ i ≤ (a.length : Int) / 5 ∧ (a.length : Int) / 5 = (b.length : Int) / 5 ∧ ∀ j : Nat, (j : Int) < i → EqAt a b j := hI
  obtain ⟨n, rfl⟩ := Int.eq_ofNat_of_zero_le h1
  rw [tn0, tn1, tn2, tn3, tn4]
  refine ⟨fun hlt => ⟨⟨h1, hlt, by omega, h1, by omega, by omega⟩, fun _ v1 e1 v2 e2 v3 e3 v4 e4 v5 e5 v6 e6 v7 e7 v8 e8 v9 e9 v10 e10 => ?_⟩, fun hge => same_yes h3 hge h4⟩
  have key : (decide (W8 (a.getD (n * 5) 0) = W8 (b.getD (n * 5) 0)) && (decide (W16 (a.getD (n * 5 + 1) 0) = W16 (b.getD (n * 5 + 1) 0)) && (decide (W16 (a.getD (n * 5 + 2) 0) = W16 (b.getD (n * 5 + 2) 0)) && (decide (a.getD (n * 5 + 3) 0 = b.getD (n * 5 + 3) 0) && decide (a.getD (n * 5 + 4) 0 = b.getD (n * 5 + 4) 0))))) = true ↔ EqAt a b n := by
    simp only [Bool.and_eq_true, decide_eq_true_eq]; exact Iff.rfl
  refine ⟨fun h => same_no hlt fun e => ?_, fun h z hz => ?_⟩
  · rw [key.2 e] at h; cases h
  · rw [show IntKind.wrap .i64 ((n : Int) + 1) = (n : Int) + 1 from W_id ⟨by omega, by omega⟩] at hz
    subst hz
    refine ⟨hasI ⟨by omega, by omega⟩, ⟨by omega, by omega, h3, eq_next h4 (key.1 h)⟩, ?_⟩
    show ((a.length : Int) / 5 - (n + 1)).toNat < ((a.length : Int) / 5 - n).toNat
    omega
theorem cEqual : CN 29 s29 := by
  refine k29 tbN invS muS prN trivial trivial rfl trivial trivial (fun _ _ h _ => h) fun a b hx hl _ => ?_
  have hlen : (a.length : Int) ≤ 9223372036854775807 * 5 := hl.1.2
  have hb : (b.length : Int) ≤ 9223372036854775807 * 5 := hl.2.1.2
  simp only [p29, decide_eq_true_eq, decide_eq_false_iff_not, Bool.not_eq_true', Bool.not_eq_false', Int.zero_add]
  refine ⟨fun h => same_len h, fun h => ⟨⟨hasI ⟨by decide, by decide⟩, Int.le_refl _, by omega, h, fun j hj => by omega⟩, fun i hi hI => ?_⟩⟩
  obtain ⟨h1, h2, h3, h4⟩ : 0 ≤ i ∧ i ≤ (a.length : Int) / 5 ∧ (a.length : Int) / 5 = (b.length : Int) / 5 ∧ ∀ j : Nat, (j : Int) < i → EqAt a b j := hI
  obtain ⟨n, rfl⟩ := Int.eq_ofNat_of_zero_le h1
  rw [tn0, tn1, tn2, tn3, tn4]
  refine ⟨fun hlt => ⟨⟨h1, hlt, by omega, h1, by omega, by omega⟩, fun _ v1 e1 v2 e2 v3 e3 v4 e4 v5 e5 v6 e6 v7 e7 v8 e8 v9 e9 v10 e10 => ?_⟩, fun hge => same_yes h3 hge h4⟩
  have key : (decide (W8 (a.getD (n * 5) 0) = W8 (b.getD (n * 5) 0)) && (decide (W16 (a.getD (n * 5 + 1) 0) = W16 (b.getD (n * 5 + 1) 0)) && (decide (W16 (a.getD (n * 5 + 2) 0) = W16 (b.getD (n * 5 + 2) 0)) && (decide (a.getD (n * 5 + 3) 0 = b.getD (n * 5 + 3) 0) && decide (a.getD (n * 5 + 4) 0 = b.getD (n * 5 + 4) 0))))) = true ↔ EqAt a b n := by
    simp only [Bool.and_eq_true, decide_eq_true_eq]; exact Iff.rfl
  refine ⟨fun h => same_no hlt fun e => ?_, fun h => ?_⟩
  · rw [key.2 e] at h; cases h
  · rw [show IntKind.wrap .i64 ((n : Int) + 1) = (n : Int) + 1 from W_id ⟨by omega, by omega⟩]
    refine ⟨hasI ⟨by omega, by omega⟩, ⟨by omega, by omega, h3, eq_next h4 (key.1 h)⟩, ?_⟩
    show ((a.length : Int) / 5 - (n + 1)).toNat < ((a.length : Int) / 5 - n).toNat
    omega
theorem cEqNodes : CN 12 s12 := by
  refine k12 tbN invS muS prN ⟨rfl, trivial⟩ ⟨fun _ _ _ => trivial, trivial⟩ rfl ⟨cEqNode, trivial⟩ trivial (fun _ _ h _ => h) fun a b hx hl _ => ?_
  have hlen : (a.length : Int) ≤ 9223372036854775807 * 5 := hl.1.2
  have hb : (b.length : Int) ≤ 9223372036854775807 * 5 := hl.2.1.2
  simp only [p12, decide_eq_true_eq, decide_eq_false_iff_not, Bool.not_eq_true', Bool.not_eq_false', Int.zero_add]
  refine ⟨fun h => same_len h, fun h => ⟨⟨hasI ⟨by decide, by decide⟩, Int.le_refl _, by omega, h, fun j hj => by omega⟩, fun i hi hI => ?_⟩⟩
  obtain ⟨h1, h2, h3, h4⟩ : 0 ≤ i ∧ i ≤ (a.length : Int) / 5 ∧ (a.length : Int) / 5 = (b.length : Int) / 5 ∧ ∀ j : Nat, (j : Int) < i → EqAt a b j := hI
  obtain ⟨n, rfl⟩ := Int.eq_ofNat_of_zero_le h1
  rw [tn0, tn1, tn2, tn3, tn4]
  refine ⟨fun hlt => ⟨⟨h1, hlt, by omega, h1, by omega, by omega⟩, fun _ v0 e0 v1 e1 v2 e2 v3 e3 v4 e4 v5 e5 v6 e6 v7 e7 v8 e8 v9 e9 v10 e10 => ?_⟩, fun hge => same_yes h3 hge h4⟩
  have e0 := outN (T := tbN) (g := 30) (F := eq5F) rfl rfl rfl rfl e0 (bool_has _)
  simp only [eq5F, List.cons.injEq, and_true] at e0
  have key : v0 = 1 ↔ EqAt a b n := one01 e0
  refine ⟨fun h => same_no hlt fun e => h (key.2 e), fun h z hz => ?_⟩
  rw [show IntKind.wrap .i64 ((n : Int) + 1) = (n : Int) + 1 from W_id ⟨by omega, by omega⟩] at hz
  subst hz
  refine ⟨hasI ⟨by omega, by omega⟩, ⟨by omega, by omega, h3, eq_next h4 (key.1 h)⟩, ?_⟩
  show ((a.length : Int) / 5 - (n + 1)).toNat < ((a.length : Int) / 5 - n).toNat
  omega
theorem same_has (a b : List Int) : allHas [⟨0, 1⟩] (sameF [] [a, b]) := bool_has (SameN a b)
theorem cSame' : CN 11 s11 := by
  refine k11 tbN noI noM prN ⟨rfl, trivial⟩ ⟨fun _ _ _ => trivial, trivial⟩ rfl ⟨cEqual, trivial⟩ trivial (fun _ _ h _ => h) fun a b hx hl _ => ?_
  unfold p11
  intro y hy
  exact outP (F := sameF) (s := s29) rfl rfl rfl hy (same_has a b)

/-! ### Copies -/
def invCp5 (_ : Nat) (ρ σ : Env) : Prop := match ρ.l, σ.i, σ.l with
  | [l], [i], [o] => 0 ≤ i ∧ i ≤ (l.length : Int) / 5 ∧ o.length = l.length ∧ ∀ j : Nat, (j : Int) < i * 5 → o[j]? = l[j]?
  | _, _, _ => False
def muCp5 (_ : Nat) (ρ σ : Env) : Nat := match ρ.l, σ.i with
  | [l], [i] => ((l.length : Int) / 5 - i).toNat
  | _, _ => 0
theorem gD {l : List Int} {n : Nat} (h : n < l.length) : l[n]? = some (l.getD n 0) := by
  rw [List.getD_eq_getElem?_getD, List.getElem?_eq_getElem h]; rfl
theorem set5 {o l : List Int} {p : Nat} (h : p + 4 < l.length) (hl : o.length = l.length) (hj : ∀ j, j < p → o[j]? = l[j]?) (j : Nat) (hp : j < p + 5) :
    (((((o.set p (l.getD p 0)).set (p + 1) (l.getD (p + 1) 0)).set (p + 2) (l.getD (p + 2) 0)).set (p + 3) (l.getD (p + 3) 0)).set (p + 4) (l.getD (p + 4) 0))[j]? = l[j]? := by
  simp only [List.getElem?_set, List.length_set]
  by_cases e4 : p + 4 = j
  · subst e4; rw [if_pos rfl, if_pos (by omega), gD h]
  rw [if_neg e4]
  by_cases e3 : p + 3 = j
  · subst e3; rw [if_pos rfl, if_pos (by omega), gD (by omega)]
  rw [if_neg e3]
  by_cases e2 : p + 2 = j
  · subst e2; rw [if_pos rfl, if_pos (by omega), gD (by omega)]
  rw [if_neg e2]
  by_cases e1 : p + 1 = j
  · subst e1; rw [if_pos rfl, if_pos (by omega), gD (by omega)]
  rw [if_neg e1]
  by_cases e0 : p = j
  · subst e0; rw [if_pos rfl, if_pos (by omega), gD (by omega)]
  rw [if_neg e0]
  exact hj j (by omega)
theorem kind_at {l : List Int} (hk : Kinds ndK l) {n f : Nat} {k : IntKind} (hf : ndK[f]? = some k) (h : n * 5 + f < l.length) : (kiv k).has (l.getD (n * 5 + f) 0) := by
  have := hk.1 (n * 5 + f) _ (gD h)
  have e := kindAt_mul (ks := ndK) (j := n) (s := 5) (f := f) (i := 0) (k := k) rfl (by simpa using hf)
  rw [Nat.add_zero] at e
  rwa [e] at this
theorem toNodeS_cp : CTC Try.prog 10 s10 y10 := by
  refine k10 tbN invCp5 muCp5 prN (by exact ⟨rfl, trivial⟩) (by exact ⟨fun _ _ _ => trivial, trivial⟩) (by exact ⟨cToNode, trivial⟩) trivial fun l hl hkk => ?_
  have hlen : (l.length : Int) ≤ 1099511627776 := hl.1.2
  have hk : Kinds ndK l := hkk 0 ndK rfl
  have h5 : l.length % 5 = 0 := hk.2
  simp only [p10, decide_eq_true_eq, decide_eq_false_iff_not, Int.le_refl, true_and, forall_const, List.length_replicate, Int.zero_add]
  have r1 : (((l.length : Int) / 5) * 5).toNat = l.length := by omega
  rw [r1]
  refine ⟨⟨hasI ⟨by decide, by decide⟩, Int.le_refl _, by omega, by simp, fun j hj => by omega⟩, fun i o hi ho hI => ?_⟩
  obtain ⟨h1, h2, h3, h4⟩ : 0 ≤ i ∧ i ≤ (l.length : Int) / 5 ∧ o.length = l.length ∧ ∀ j : Nat, (j : Int) < i * 5 → o[j]? = l[j]? := hI
  obtain ⟨n, rfl⟩ := Int.eq_ofNat_of_zero_le h1
  rw [tn0, tn1, tn2, tn3, tn4]
  refine ⟨fun hlt => ⟨⟨h1, hlt⟩, fun _ => ⟨by omega, fun _ v1 e1 v2 e2 v3 e3 v4 e4 v5 e5 v6 v7 v8 v9 v10 hv => ⟨⟨h1, by omega, by omega⟩, fun _ => ⟨by omega, fun _ z hz => ?_⟩⟩⟩⟩, fun hge => ⟨by rw [h3], fun _ => ?_⟩⟩
  · have k0 : (kiv .i8).has (l.getD (n * 5) 0) := kind_at hk (n := n) (f := 0) rfl (by omega)
    have k1 : (kiv .i16).has (l.getD (n * 5 + 1) 0) := kind_at hk (n := n) (f := 1) rfl (by omega)
    have k2 : (kiv .i16).has (l.getD (n * 5 + 2) 0) := kind_at hk (n := n) (f := 2) rfl (by omega)
    have k3 : (kiv .i64).has (l.getD (n * 5 + 3) 0) := kind_at hk (n := n) (f := 3) rfl (by omega)
    have k4 : (kiv .i64).has (l.getD (n * 5 + 4) 0) := kind_at hk (n := n) (f := 4) rfl (by omega)
    rw [wrap_id k0] at e1
    rw [wrap_id k1] at e2
    rw [wrap_id k2] at e3
    have hv := outN (T := tbN) (g := 28) (F := idF) rfl rfl rfl rfl hv (by subst e1 e2 e3 e4 e5; exact ⟨k0, k1, k2, k3, k4, trivial⟩)
    simp only [idF, List.cons.injEq, and_true] at hv
    obtain ⟨rfl, rfl, rfl, rfl, rfl⟩ := hv
    subst e1 e2 e3 e4 e5
    rw [show IntKind.wrap .i64 ((n : Int) + 1) = (n : Int) + 1 from W_id ⟨by omega, by omega⟩] at hz
    subst hz
    refine ⟨hasI ⟨by omega, by omega⟩, ⟨by omega, by omega, by simp only [List.length_set]; exact h3, fun j hj => set5 (by omega) h3 (fun j hj => h4 j (by omega)) j (by omega)⟩, ?_⟩
    show ((l.length : Int) / 5 - (n + 1)).toNat < ((l.length : Int) / 5 - n).toNat
    omega
  · have : o = l := List.ext_getElem? fun j => by
      by_cases hj : (j : Int) < (n : Int) * 5
      · exact h4 j hj
      · rw [List.getElem?_eq_none (by omega), List.getElem?_eq_none (by omega)]
    rw [this]

/-! ### The law -/
theorem fSame : CN 3 s3 := by
  refine k3 tbN noI noM prN (by exact ⟨rfl, rfl, rfl, rfl, trivial⟩) (by exact ⟨fun _ _ _ => trivial, fun _ _ _ => trivial, fun _ _ _ => trivial, fun _ _ _ => trivial, trivial⟩) rfl
    (by exact ⟨cSz, cSame, cSame', cEqNodes, trivial⟩) (by exact ⟨toNodeS_cp, trivial⟩) (fun _ _ h _ => h) fun a b hx hl _ => ?_
  have ha : (a.length : Int) ≤ 9223372036854775807 * 5 := hl.1.2
  have hb : (b.length : Int) ≤ 9223372036854775807 * 5 := hl.2.1.2
  simp only [p3, decide_eq_true_eq, decide_eq_false_iff_not, Bool.not_eq_true', Bool.not_eq_false']
  intro v hv
  have hv := szT hv
  subst hv
  refine ⟨fun _ => rfl, fun hn w hw => ?_⟩
  have hw := szT hw
  subst hw
  obtain ⟨q1, q2⟩ := sz5_le ⟨by decide, by decide⟩ ha hn
  refine ⟨fun _ => rfl, fun hn2 => ?_⟩
  obtain ⟨q3, q4⟩ := sz5_le (x := sz5 1048576 a) ⟨by omega, by omega⟩ hb hn2
  have ga : (a.length : Int) ≤ 1099511627776 := by omega
  have gb : (b.length : Int) ≤ 1099511627776 := by omega
  refine ⟨ga, fun _ => ⟨gb, fun _ u hu => ⟨ga, fun _ => ⟨gb, fun _ t ht => ?_⟩⟩⟩⟩
  have hu := outP (F := sameF) (s := s9) rfl rfl rfl hu (same_has a b)
  have ht := outP (F := sameF) (s := s11) rfl rfl rfl ht (same_has a b)
  have e : t = u := by
    have := ht.trans hu.symm
    simpa using this
  subst e
  have refl : ∀ (l : List Int) (y : Int), [y] = tbN.outL 12 1 [] [l, l] → y = 1 := fun l y hy => by
    have hy := outP (F := sameF) (s := s12) rfl rfl rfl hy (same_has l l)
    have hy : [y] = [if SameN l l then (1 : Int) else 0] := hy
    rw [if_pos (SameN.refl l)] at hy
    simpa using hy
  refine ⟨fun h => ?_, fun _ => ⟨ga, fun _ r hr => ⟨fun h => absurd (refl a r hr) h, fun _ => ⟨gb, fun _ s hs => ⟨fun h => absurd (refl b s hs) h, fun _ => rfl⟩⟩⟩⟩⟩
  simp at h
end Go.Proofs.Ytcggjbabokhbnaa.Sx
