/-
  Trees: copies, sizes, equality; which are valid.
-/
import Derived.Test.YtickjfclmoecpaaQ0
namespace Go.Proofs.Ytickjfclmoecpaa.Sx
open Go Go.RowKit
set_option linter.unusedVariables false
set_option linter.unusedSimpArgs false

/-! ### Copies -/
theorem qTo3 : CQ 82 s82 :=
  k82 tbQ noI noM prQ trivial trivial rfl trivial trivial (fun _ _ h _ => h) fun a b c _ _ _ => by
    unfold p82; rfl
theorem qToFork : CQ 71 s71 := by
  refine k71 tbQ noI noM prQ (by exact ⟨rfl, trivial⟩) (by exact ⟨fun _ _ _ => trivial, trivial⟩) rfl (by exact ⟨qTo3, trivial⟩) trivial (fun _ _ h _ => h) fun a b c d e hx _ _ => ?_
  unfold p71
  intro x y z h
  have h := outN (T := tbQ) (g := 82) (F := idF) rfl rfl rfl rfl h ⟨hx.2.2.1, hx.2.2.2.1, hx.2.2.2.2.1, trivial⟩
  simp only [idF, List.cons.injEq, and_true] at h
  obtain ⟨rfl, rfl, rfl⟩ := h
  rfl
def invCp5 (_ : Nat) (ρ σ : Env) : Prop := match ρ.l, σ.i, σ.l with
  | [l], [i], [o] => 0 ≤ i ∧ i ≤ (l.length : Int) / 5 ∧ o.length = l.length ∧ ∀ j : Nat, (j : Int) < i * 5 → o[j]? = l[j]?
  | _, _, _ => False
def mu5 (_ : Nat) (ρ σ : Env) : Nat := match ρ.l, σ.i with
  | l :: _, [i] => ((l.length : Int) / 5 - i).toNat
  | l :: _, [_, i] => ((l.length : Int) / 5 - i).toNat
  | _, _ => 0
theorem gD {l : List Int} {n : Nat} (h : n < l.length) : l[n]? = some (l.getD n 0) := by
  rw [List.getD_eq_getElem?_getD, List.getElem?_eq_getElem h]; rfl
theorem set5 {o : List Int} {p : Nat} {f : Nat → Option Int} {a b c d e : Int} (h : p + 4 < o.length) (hj : ∀ j, j < p → o[j]? = f j)
    (ha : f p = some a) (hb : f (p + 1) = some b) (hc : f (p + 2) = some c) (hd : f (p + 3) = some d) (he : f (p + 4) = some e) (j : Nat) (hp : j < p + 5) :
    (((((o.set (p + 0) a).set (p + 1) b).set (p + 2) c).set (p + 3) d).set (p + 4) e)[j]? = f j := by
  simp only [List.getElem?_set, List.length_set, Nat.add_zero]
  by_cases e4 : p + 4 = j
  · subst e4; rw [if_pos rfl, if_pos (by omega), he]
  rw [if_neg e4]
  by_cases e3 : p + 3 = j
  · subst e3; rw [if_pos rfl, if_pos (by omega), hd]
  rw [if_neg e3]
  by_cases e2 : p + 2 = j
  · subst e2; rw [if_pos rfl, if_pos (by omega), hc]
  rw [if_neg e2]
  by_cases e1 : p + 1 = j
  · subst e1; rw [if_pos rfl, if_pos (by omega), hb]
  rw [if_neg e1]
  by_cases e0 : p = j
  · subst e0; rw [if_pos rfl, if_pos (by omega), ha]
  rw [if_neg e0]
  exact hj j (by omega)
theorem kind_at {l : List Int} (hk : Kinds frK l) {n f : Nat} {k : IntKind} (hf : frK[f]? = some k) (h : n * 5 + f < l.length) : (kiv k).has (G l n f) := by
  have := hk.1 (n * 5 + f) _ (gD h)
  have e := kindAt_mul (ks := frK) (j := n) (s := 5) (f := f) (i := 0) (k := k) rfl (by simpa using hf)
  rw [Nat.add_zero] at e
  rwa [e] at this
theorem toForkS_cp : CTC Try.prog 44 s44 y44 := by
  refine k44 tbQ invCp5 mu5 prQ (by exact ⟨rfl, trivial⟩) (by exact ⟨fun _ _ _ => trivial, trivial⟩) (by exact ⟨qToFork, trivial⟩) trivial fun l hl hkk => ?_
  have hlen : (l.length : Int) ≤ 1099511627776 := hl.1.2
  have hk : Kinds frK l := hkk 0 frK rfl
  have h5 : l.length % 5 = 0 := hk.2
  simp only [p44, decide_eq_true_eq, decide_eq_false_iff_not, Int.le_refl, true_and, forall_const, List.length_replicate, Int.zero_add]
  have r1 : (((l.length : Int) / 5) * 5).toNat = l.length := by omega
  rw [r1]
  refine ⟨⟨hasI ⟨by decide, by decide⟩, Int.le_refl _, by omega, by simp, fun j hj => by omega⟩, fun i o hi ho hI => ?_⟩
  obtain ⟨h1, h2, h3, h4⟩ : 0 ≤ i ∧ i ≤ (l.length : Int) / 5 ∧ o.length = l.length ∧ ∀ j : Nat, (j : Int) < i * 5 → o[j]? = l[j]? := hI
  obtain ⟨n, rfl⟩ := Int.eq_ofNat_of_zero_le h1
  rw [tn0, tn1, tn2, tn3, tn4]
  refine ⟨fun hlt => ⟨by omega, fun _ => ⟨⟨h1, hlt⟩, fun _ => ⟨by omega, fun _ v1 e1 v2 e2 v3 e3 v4 e4 v5 e5 v6 v7 v8 v9 v10 hv => ⟨⟨h1, by omega⟩, fun _ => ⟨by omega, fun _ z hz => ?_⟩⟩⟩⟩⟩, fun hge => ⟨by omega, fun _ => ?_⟩⟩
  · have k0 : (kiv .i8).has (G l n 0) := kind_at hk (n := n) (f := 0) rfl (by omega)
    have k1 : (kiv .i8).has (G l n 1) := kind_at hk (n := n) (f := 1) rfl (by omega)
    have k2 : (kiv .i16).has (G l n 2) := kind_at hk (n := n) (f := 2) rfl (by omega)
    have k3 : (kiv .i16).has (G l n 3) := kind_at hk (n := n) (f := 3) rfl (by omega)
    have k4 : (kiv .i16).has (G l n 4) := kind_at hk (n := n) (f := 4) rfl (by omega)
    rw [wrap_id k0] at e1
    rw [wrap_id k1] at e2
    have hv := outN (T := tbQ) (g := 71) (F := idF) rfl rfl rfl rfl hv (by subst e1 e2 e3 e4 e5; exact ⟨k0, k1, k2, k3, k4, trivial⟩)
    simp only [idF, List.cons.injEq, and_true] at hv
    obtain ⟨rfl, rfl, rfl, rfl, rfl⟩ := hv
    subst e1 e2 e3 e4 e5
    rw [show IntKind.wrap .i64 ((n : Int) + 1) = (n : Int) + 1 from W_id ⟨by omega, by omega⟩] at hz
    subst hz
    refine ⟨hasI ⟨by omega, by omega⟩, ⟨by omega, by omega, by simp only [List.length_set]; exact h3, fun j hj => set5 (f := fun j => l[j]?) (by omega) (fun j hj => h4 j (by omega)) (gD (by omega)) (gD (by omega)) (gD (by omega)) (gD (by omega)) (gD (by omega)) j (by omega)⟩, ?_⟩
    show ((l.length : Int) / 5 - (n + 1)).toNat < ((l.length : Int) / 5 - n).toNat
    omega
  · have : o = l := List.ext_getElem? fun j => by
      by_cases hj : (j : Int) < (n : Int) * 5
      · exact h4 j hj
      · rw [List.getElem?_eq_none (by omega), List.getElem?_eq_none (by omega)]
    rw [this]
theorem toTree_cp : CTC Try.prog 15 s15 y15 := by
  refine k15 tbQ noI noM prQ (by exact trivial) (by exact trivial) (by exact trivial) (by exact ⟨toForkS_cp, trivial⟩) fun l hl hkk => ?_
  simp only [p15, decide_eq_true_eq, true_and, forall_const]

/-! ### Sizes -/
theorem sz5_has (x : Int) (l : List Int) : I64 (sz5 x l) := by
  unfold sz5
  split
  · exact ⟨by decide, by decide⟩
  · exact W_has _
theorem qSz : CQ 42 s42 := by
  refine k42 tbQ noI noM prQ trivial trivial rfl trivial trivial (fun _ _ h _ => h) fun x l hx hl _ => ?_
  simp only [p42, decide_eq_true_eq, decide_eq_false_iff_not]
  intro y hy
  show (y < 0 → [-1] = [sz5 x l]) ∧ (¬ y < 0 → [y] = [sz5 x l])
  unfold sz5
  rw [← show y = W (x - (l.length : Int) / 5) from hy]
  exact ⟨fun h => by rw [if_pos h], fun h => by rw [if_neg h]⟩
theorem sz5_fix (x : Int) (l : List Int) : (if sz5 x l < 0 then -1 else sz5 x l) = sz5 x l := by
  unfold sz5
  split
  · rw [if_pos (by decide)]
  · rfl
theorem qSzT : CQ 13 s13 := by
  refine k13 tbQ noI noM prQ (by exact ⟨rfl, trivial⟩) (by exact ⟨fun _ _ _ => trivial, trivial⟩) rfl (by exact ⟨qSz, trivial⟩) trivial (fun _ _ h _ => h) fun x l hx hl _ => ?_
  simp only [p13, decide_eq_true_eq, decide_eq_false_iff_not]
  intro y hy
  have hy := out1 (F := szF) (s := s42) rfl rfl rfl hy rfl (hasI (sz5_has _ _))
  subst hy
  show (sz5 x l < 0 → [-1] = [sz5 x l]) ∧ (¬ sz5 x l < 0 → [sz5 x l] = [sz5 x l])
  refine ⟨fun h => ?_, fun _ => rfl⟩
  have := sz5_fix x l
  rw [if_pos h] at this
  rw [← this]
theorem szT {x y : Int} {l : List Int} (hy : [y] = tbQ.outL 13 1 [x] [l]) : y = sz5 x l := out1 (F := szF) (s := s13) rfl rfl rfl hy rfl (hasI (sz5_has _ _))
theorem sz5_le {x : Int} {l : List Int} (hx : 0 ≤ x ∧ x ≤ 1048576) (hl : (l.length : Int) ≤ 9223372036854775807 * 5) (h : ¬ sz5 x l < 0) : sz5 x l = x - (l.length : Int) / 5 ∧ 0 ≤ x - (l.length : Int) / 5 := by
  unfold sz5 at h ⊢
  have : W (x - (l.length : Int) / 5) = x - (l.length : Int) / 5 := W_id ⟨by omega, by omega⟩
  rw [this] at h ⊢
  split at h
  · omega
  · rename_i h'
    rw [if_neg h']; exact ⟨rfl, by omega⟩

/-! ### Equality -/
theorem qEq3 : CQ 83 s83 :=
  k83 tbQ noI noM prQ trivial trivial rfl trivial trivial (fun _ _ h _ => h) fun a b c a' b' c' _ _ _ => by
    unfold p83
    rw [show tbQ.app 83 [a, b, c, a', b', c'] [] = [if a = a' ∧ b = b' ∧ c = c' then 1 else 0] from rfl]
    simp only [Bool.not_eq_true', Bool.not_eq_false', decide_eq_true_eq, decide_eq_false_iff_not]
    exact ⟨fun h => by rw [if_neg (fun e => h e.1)], fun h => ⟨fun h2 => by rw [if_neg (fun e => h2 e.2.1)], fun h2 => ⟨fun h3 => by rw [if_neg (fun e => h3 e.2.2)], fun h3 => by rw [if_pos ⟨h, h2, h3⟩]⟩⟩⟩
theorem qEq5 : CQ 73 s73 := by
  refine k73 tbQ noI noM prQ (by exact ⟨rfl, trivial⟩) (by exact ⟨fun _ _ _ => trivial, trivial⟩) rfl (by exact ⟨qEq3, trivial⟩) trivial (fun _ _ h _ => h) fun a b c d e a' b' c' d' e' _ _ _ => ?_
  unfold p73
  rw [show tbQ.app 73 [a, b, c, d, e, a', b', c', d', e'] [] = [if a = a' ∧ b = b' ∧ c = c' ∧ d = d' ∧ e = e' then 1 else 0] from rfl]
  simp only [Bool.not_eq_true', Bool.not_eq_false', decide_eq_true_eq, decide_eq_false_iff_not]
  refine ⟨fun h => by rw [if_neg (fun e => h e.1)], fun h => ⟨fun h2 => by rw [if_neg (fun e => h2 e.2.1)], fun h2 v hv => ?_⟩⟩
  have hv := outN (T := tbQ) (g := 83) (F := eq3F) rfl rfl rfl rfl hv bool1
  simp only [eq3F, List.cons.injEq, and_true] at hv
  rw [one01 hv]
  exact ⟨fun h3 => by rw [if_neg (fun e => h3 e.2.2)], fun h3 => by rw [if_pos ⟨h, h2, h3⟩]⟩
def invS (_ : Nat) (ρ σ : Env) : Prop := match ρ.l, σ.i with
  | [a, b], [i] => 0 ≤ i ∧ i ≤ (a.length : Int) / 5 ∧ (a.length : Int) / 5 = (b.length : Int) / 5 ∧ ∀ j : Nat, (j : Int) < i → EqAt a b j
  | _, _ => False
theorem up_next {p : Nat → Prop} {n : Nat} (h4 : ∀ j : Nat, (j : Int) < n → p j) (hn : p n) : ∀ j : Nat, (j : Int) < (n : Int) + 1 → p j := fun j hj => by
  by_cases e : j = n
  · subst e; exact hn
  · exact h4 j (by omega)
theorem same_no {a b : List Int} {n : Nat} (hn : (n : Int) < (a.length : Int) / 5) (h : ¬ EqAt a b n) : ([0] : List Int) = sameF [] [a, b] := by
  show [0] = [if SameN a b then (1 : Int) else 0]
  rw [if_neg (fun e => h (e.2 n hn))]
theorem same_len {a b : List Int} (h : ¬ (a.length : Int) / 5 = (b.length : Int) / 5) : ([0] : List Int) = sameF [] [a, b] := by
  show [0] = [if SameN a b then (1 : Int) else 0]
  rw [if_neg (fun e => h e.1)]
theorem same_yes {a b : List Int} {n : Nat} (hl : (a.length : Int) / 5 = (b.length : Int) / 5) (hn : ¬ (n : Int) < (a.length : Int) / 5) (h4 : ∀ j : Nat, (j : Int) < n → EqAt a b j) : ([1] : List Int) = sameF [] [a, b] := by
  show [1] = [if SameN a b then (1 : Int) else 0]
  rw [if_pos ⟨hl, fun j hj => h4 j (by omega)⟩]
theorem qSame : CQ 47 s47 := by
  refine k47 tbQ invS mu5 prQ trivial trivial rfl trivial trivial (fun _ _ h _ => h) fun a b hx hl _ => ?_
  have hlen : (a.length : Int) ≤ 9223372036854775807 * 5 := hl.1.2
  have hb : (b.length : Int) ≤ 9223372036854775807 * 5 := hl.2.1.2
  simp only [p47, decide_eq_true_eq, decide_eq_false_iff_not, Bool.not_eq_true', Bool.not_eq_false', Int.zero_add]
  refine ⟨fun h => same_len h, fun h => ⟨⟨hasI ⟨by decide, by decide⟩, Int.le_refl _, by omega, h, fun j hj => by omega⟩, fun i hi hI => ?_⟩⟩
  obtain ⟨h1, h2, h3, h4⟩ : 0 ≤ i ∧ i ≤ (a.length : Int) / 5 ∧ (a.length : Int) / 5 = (b.length : Int) / 5 ∧ ∀ j : Nat, (j : Int) < i → EqAt a b j := hI
  obtain ⟨n, rfl⟩ := Int.eq_ofNat_of_zero_le h1
  rw [tn0, tn1, tn2, tn3, tn4]
  refine ⟨fun hlt => ⟨⟨h1, hlt, by omega, h1, by omega, by omega⟩, fun _ v1 e1 v2 e2 v3 e3 v4 e4 v5 e5 v6 e6 v7 e7 v8 e8 v9 e9 v10 e10 => ?_⟩, fun hge => same_yes h3 hge h4⟩
  have key : (decide (W8 (G a n 0) = W8 (G b n 0)) && (decide (W8 (G a n 1) = W8 (G b n 1)) && (decide (G a n 2 = G b n 2) && (decide (G a n 3 = G b n 3) && decide (G a n 4 = G b n 4))))) = true ↔ EqAt a b n := by
    simp only [Bool.and_eq_true, decide_eq_true_eq]; exact Iff.rfl
  refine ⟨fun h => same_no hlt fun e => ?_, fun h z hz => ?_⟩
  · rw [key.2 e] at h; cases h
  · rw [show IntKind.wrap .i64 ((n : Int) + 1) = (n : Int) + 1 from W_id ⟨by omega, by omega⟩] at hz
    subst hz
    refine ⟨hasI ⟨by omega, by omega⟩, ⟨by omega, by omega, h3, up_next h4 (key.1 h)⟩, ?_⟩
    show ((a.length : Int) / 5 - (n + 1)).toNat < ((a.length : Int) / 5 - n).toNat
    omega
theorem qEqual : CQ 48 s48 := by
  refine k48 tbQ invS mu5 prQ trivial trivial rfl trivial trivial (fun _ _ h _ => h) fun a b hx hl _ => ?_
  have hlen : (a.length : Int) ≤ 9223372036854775807 * 5 := hl.1.2
  have hb : (b.length : Int) ≤ 9223372036854775807 * 5 := hl.2.1.2
  simp only [p48, decide_eq_true_eq, decide_eq_false_iff_not, Bool.not_eq_true', Bool.not_eq_false', Int.zero_add]
  refine ⟨fun h => same_len h, fun h => ⟨⟨hasI ⟨by decide, by decide⟩, Int.le_refl _, by omega, h, fun j hj => by omega⟩, fun i hi hI => ?_⟩⟩
  obtain ⟨h1, h2, h3, h4⟩ : 0 ≤ i ∧ i ≤ (a.length : Int) / 5 ∧ (a.length : Int) / 5 = (b.length : Int) / 5 ∧ ∀ j : Nat, (j : Int) < i → EqAt a b j := hI
  obtain ⟨n, rfl⟩ := Int.eq_ofNat_of_zero_le h1
  rw [tn0, tn1, tn2, tn3, tn4]
  refine ⟨fun hlt => ⟨⟨h1, hlt, by omega, h1, by omega, by omega⟩, fun _ v1 e1 v2 e2 v3 e3 v4 e4 v5 e5 v6 e6 v7 e7 v8 e8 v9 e9 v10 e10 => ?_⟩, fun hge => same_yes h3 hge h4⟩
  have key : (decide (W8 (G a n 0) = W8 (G b n 0)) && (decide (W8 (G a n 1) = W8 (G b n 1)) && (decide (G a n 2 = G b n 2) && (decide (G a n 3 = G b n 3) && decide (G a n 4 = G b n 4))))) = true ↔ EqAt a b n := by
    simp only [Bool.and_eq_true, decide_eq_true_eq]; exact Iff.rfl
  refine ⟨fun h => same_no hlt fun e => ?_, fun h => ?_⟩
  · rw [key.2 e] at h; cases h
  · rw [show IntKind.wrap .i64 ((n : Int) + 1) = (n : Int) + 1 from W_id ⟨by omega, by omega⟩]
    refine ⟨hasI ⟨by omega, by omega⟩, ⟨by omega, by omega, h3, up_next h4 (key.1 h)⟩, ?_⟩
    show ((a.length : Int) / 5 - (n + 1)).toNat < ((a.length : Int) / 5 - n).toNat
    omega
theorem qEqS : CQ 46 s46 := by
  refine k46 tbQ invS mu5 prQ (by exact ⟨rfl, trivial⟩) (by exact ⟨fun _ _ _ => trivial, trivial⟩) rfl (by exact ⟨qEq5, trivial⟩) trivial (fun _ _ h _ => h) fun a b hx hl _ => ?_
  have hlen : (a.length : Int) ≤ 9223372036854775807 * 5 := hl.1.2
  have hb : (b.length : Int) ≤ 9223372036854775807 * 5 := hl.2.1.2
  simp only [p46, decide_eq_true_eq, decide_eq_false_iff_not, Bool.not_eq_true', Bool.not_eq_false', Int.zero_add]
  refine ⟨fun h => same_len h, fun h => ⟨⟨hasI ⟨by decide, by decide⟩, Int.le_refl _, by omega, h, fun j hj => by omega⟩, fun i hi hI => ?_⟩⟩
  obtain ⟨h1, h2, h3, h4⟩ : 0 ≤ i ∧ i ≤ (a.length : Int) / 5 ∧ (a.length : Int) / 5 = (b.length : Int) / 5 ∧ ∀ j : Nat, (j : Int) < i → EqAt a b j := hI
  obtain ⟨n, rfl⟩ := Int.eq_ofNat_of_zero_le h1
  rw [tn0, tn1, tn2, tn3, tn4]
  refine ⟨fun hlt => ⟨⟨h1, hlt, by omega, h1, by omega, by omega⟩, fun _ v0 e0 v1 e1 v2 e2 v3 e3 v4 e4 v5 e5 v6 e6 v7 e7 v8 e8 v9 e9 v10 e10 => ?_⟩, fun hge => same_yes h3 hge h4⟩
  have e0 := outN (T := tbQ) (g := 73) (F := eq5F) rfl rfl rfl rfl e0 bool1
  simp only [eq5F, List.cons.injEq, and_true] at e0
  have key : v0 = 1 ↔ EqAt a b n := one01 e0
  refine ⟨fun h => same_no hlt fun e => h (key.2 e), fun h z hz => ?_⟩
  rw [show IntKind.wrap .i64 ((n : Int) + 1) = (n : Int) + 1 from W_id ⟨by omega, by omega⟩] at hz
  subst hz
  refine ⟨hasI ⟨by omega, by omega⟩, ⟨by omega, by omega, h3, up_next h4 (key.1 h)⟩, ?_⟩
  show ((a.length : Int) / 5 - (n + 1)).toNat < ((a.length : Int) / 5 - n).toNat
  omega
theorem same_has (a b : List Int) : allHas [⟨0, 1⟩] (sameF [] [a, b]) := bool_has (SameN a b)
theorem qEqT : CQ 17 s17 := by
  refine k17 tbQ noI noM prQ (by exact ⟨rfl, trivial⟩) (by exact ⟨fun _ _ _ => trivial, trivial⟩) rfl (by exact ⟨qEqS, trivial⟩) trivial (fun _ _ h _ => h) fun a b hx hl _ => ?_
  simp only [p17, decide_eq_true_eq, decide_eq_false_iff_not, Bool.not_eq_true', Bool.not_eq_false']
  intro y hy
  have hy := out1 (F := sameF) (s := s46) rfl rfl rfl hy rfl bool1
  rw [one01 hy]
  exact ⟨fun h => by show [0] = [if SameN a b then (1 : Int) else 0]; rw [if_neg h], fun h => by show [1] = [if SameN a b then (1 : Int) else 0]; rw [if_pos h]⟩
theorem qSameS : CQ 18 s18 := by
  refine k18 tbQ noI noM prQ (by exact ⟨rfl, trivial⟩) (by exact ⟨fun _ _ _ => trivial, trivial⟩) rfl (by exact ⟨qSame, trivial⟩) trivial (fun _ _ h _ => h) fun a b hx hl _ => ?_
  unfold p18
  intro y hy
  exact outP (F := sameF) (s := s47) rfl rfl rfl hy (same_has a b)
theorem qSameI : CQ 19 s19 := by
  refine k19 tbQ noI noM prQ (by exact ⟨rfl, trivial⟩) (by exact ⟨fun _ _ _ => trivial, trivial⟩) rfl (by exact ⟨qEqual, trivial⟩) trivial (fun _ _ h _ => h) fun a b hx hl _ => ?_
  unfold p19
  intro y hy
  exact outP (F := sameF) (s := s48) rfl rfl rfl hy (same_has a b)
theorem eqT {y : Int} {a b : List Int} (hy : [y] = tbQ.outL 17 1 [] [a, b]) : y = if SameN a b then 1 else 0 := out1 (F := sameF) (s := s17) rfl rfl rfl hy rfl bool1
theorem eqR {y : Int} {a : List Int} (hy : [y] = tbQ.outL 17 1 [] [a, a]) : y = 1 := by
  rw [eqT hy, if_pos (SameN.refl a)]

/-! ### The law of equality -/
theorem fSame : CQ 4 s4 := by
  refine k4 tbQ noI noM prQ (by exact ⟨rfl, rfl, rfl, rfl, trivial⟩) (by exact ⟨fun _ _ _ => trivial, fun _ _ _ => trivial, fun _ _ _ => trivial, fun _ _ _ => trivial, trivial⟩) rfl
    (by exact ⟨qSzT, qSameS, qSameI, qEqT, trivial⟩) (by exact ⟨toTree_cp, trivial⟩) (fun _ _ h _ => h) fun a b hx hl _ => ?_
  have ha : (a.length : Int) ≤ 9223372036854775807 * 5 := hl.1.2
  have hb : (b.length : Int) ≤ 9223372036854775807 * 5 := hl.2.1.2
  simp only [p4, decide_eq_true_eq, decide_eq_false_iff_not, Bool.not_eq_true', Bool.not_eq_false']
  intro v hv
  have hv := szT hv
  subst hv
  refine ⟨fun _ => rfl, fun hn w hw => ?_⟩
  have hw := szT hw
  subst hw
  obtain ⟨q1, q2⟩ := sz5_le ⟨by decide, by decide⟩ ha hn
  refine ⟨fun _ => rfl, fun hn2 => ?_⟩
  obtain ⟨q3, q4⟩ := sz5_le (x := sz5 1048576 a) ⟨by omega, by omega⟩ hb hn2
  have ga : (a.length : Int) ≤ 1099511627776 := by omega
  have gb : (b.length : Int) ≤ 1099511627776 := by omega
  refine ⟨⟨ga, gb⟩, fun _ u hu => ⟨ga, fun _ => ⟨gb, fun _ t ht => ?_⟩⟩⟩
  have hu := outP (F := sameF) (s := s18) rfl rfl rfl hu (same_has a b)
  have ht := outP (F := sameF) (s := s19) rfl rfl rfl ht (same_has a b)
  have e : t = u := by
    have := ht.trans hu.symm
    simpa using this
  subst e
  refine ⟨fun h => ?_, fun _ => ⟨ga, fun _ r hr => ⟨fun h => absurd (eqR hr) h, fun _ => ⟨gb, fun _ s hs => ⟨fun h => absurd (eqR hs) h, fun _ => rfl⟩⟩⟩⟩⟩
  simp at h
end Go.Proofs.Ytickjfclmoecpaa.Sx
