/-
  Terms as lists of nodes: sizes, equality, copies; when a term is valid.
-/
import Derived.Test.YtnnklfkjnhdadaaT0
import Derived.Test.YtnnklfkjnhdadaaA1
import Derived.Test.YtnnklfkjnhdadaaJ1
namespace Go.Proofs.Ytnnklfkjnhdadaa.Sx
open Go Go.RowKit
set_option linter.unusedVariables false
set_option linter.unusedSimpArgs false

theorem one01 {c : Prop} [Decidable c] {y : Int} (h : y = if c then 1 else 0) : y = 1 ↔ c := by
  rw [h]; split <;> simp_all
theorem hasI {x : Int} (h : I64 x) : allHas [⟨-9223372036854775808, 9223372036854775807⟩] [x] := ⟨h, trivial⟩
abbrev ndK : List IntKind := [.i8, .i16, .i16, .i64, .i64]
abbrev W8 (x : Int) : Int := IntKind.wrap .i8 x
abbrev W16 (x : Int) : Int := IntKind.wrap .i16 x
def EqAt (a b : List Int) (n : Nat) : Prop := W8 (a.getD (n * 5) 0) = W8 (b.getD (n * 5) 0) ∧ W16 (a.getD (n * 5 + 1) 0) = W16 (b.getD (n * 5 + 1) 0) ∧ W16 (a.getD (n * 5 + 2) 0) = W16 (b.getD (n * 5 + 2) 0) ∧ a.getD (n * 5 + 3) 0 = b.getD (n * 5 + 3) 0 ∧ a.getD (n * 5 + 4) 0 = b.getD (n * 5 + 4) 0
def SameN (a b : List Int) : Prop := (a.length : Int) / 5 = (b.length : Int) / 5 ∧ ∀ n : Nat, (n : Int) < (a.length : Int) / 5 → EqAt a b n
instance (a b : List Int) (n : Nat) : Decidable (EqAt a b n) := inferInstanceAs (Decidable (_ ∧ _))
noncomputable instance (a b : List Int) : Decidable (SameN a b) := Classical.propDecidable _
noncomputable def sameF : LF
  | [], [a, b] => [if SameN a b then 1 else 0]
  | _, _ => []
theorem SameN.refl (a : List Int) : SameN a a := ⟨rfl, fun n _ => ⟨rfl, rfl, rfl, rfl, rfl⟩⟩
def sz5 (x : Int) (l : List Int) : Int := if W (x - (l.length : Int) / 5) < 0 then -1 else W (x - (l.length : Int) / 5)
def szF : LF
  | [x], [l] => [sz5 x l]
  | _, _ => []
def lawF : LF := fun _ _ => [1]
def idF (xs : List Int) : List Int := xs
def eq5F : List Int → List Int
  | [a, b, c, d, e, a', b', c', d', e'] => [if a = a' ∧ b = b' ∧ c = c' ∧ d = d' ∧ e = e' then 1 else 0]
  | _ => []
/-! ### Valid nodes -/
abbrev isOne (k : Int) : Prop := k = 6 ∨ k = 7 ∨ k = 10
abbrev isTwo (k : Int) : Prop := k = 2 ∨ k = 3 ∨ k = 4 ∨ k = 5 ∨ k = 8 ∨ k = 9
abbrev opsOf (k : Int) : Int := if isTwo k then 2 else if isOne k then 1 else 0
def okN (k a b p q i : Int) : Prop := (1 ≤ k ∧ k ≤ 12) ∧ (isOne k ∨ isTwo k → 0 ≤ a ∧ a < i ∧ p = 0 ∧ q = 0) ∧ (isTwo k → 0 ≤ b ∧ b < i) ∧ (¬ isTwo k → b = 0) ∧ (¬ isOne k ∧ ¬ isTwo k → a = 0) ∧
  (k = 1 → -1000000000 ≤ p ∧ p ≤ 1000000000 ∧ 1 ≤ q ∧ q ≤ 1000000000) ∧ (k ≠ 1 ∧ ¬ isOne k ∧ ¬ isTwo k → p = 0 ∧ q = 0)
noncomputable instance (k a b p q i : Int) : Decidable (okN k a b p q i) := Classical.propDecidable _
abbrev b01 (c : Prop) [Decidable c] : Int := if c then 1 else 0
def inF : List Int → List Int
  | [x, lo, hi] => [b01 (lo ≤ x ∧ x ≤ hi)]
  | _ => []
def oneF : List Int → List Int
  | [k] => [b01 (isOne k)]
  | _ => []
def twoF : List Int → List Int
  | [k] => [b01 (isTwo k)]
  | _ => []
def opsF : List Int → List Int
  | [k] => [opsOf k]
  | _ => []
def bareF : List Int → List Int
  | [k, a, b, p, q] => if k = 1 then [k, 0, 0, p, q] else if isTwo k then [k, a, b, 0, 0] else if isOne k then [k, a, 0, 0, 0] else [k, 0, 0, 0, 0]
  | _ => []
noncomputable def nodeF : List Int → List Int
  | [k, a, b, p, q, i] => [b01 (okN k a b p q i)]
  | _ => []
def okAt (l : List Int) (n : Nat) : Prop := okN (W8 (l.getD (n * 5) 0)) (W16 (l.getD (n * 5 + 1) 0)) (W16 (l.getD (n * 5 + 2) 0)) (l.getD (n * 5 + 3) 0) (l.getD (n * 5 + 4) 0) n
def ValidT (l : List Int) : Prop := (1 ≤ (l.length : Int) / 5 ∧ (l.length : Int) / 5 ≤ 40) ∧ ∀ n : Nat, (n : Int) < (l.length : Int) / 5 → okAt l n
noncomputable instance (l : List Int) : Decidable (ValidT l) := Classical.propDecidable _
noncomputable def validF : LF
  | [], [l] => [if ValidT l then 1 else 0]
  | _, _ => []
/-! ### Terms with the nodes of two -/
def mvL (f : Int → Int) (k a b p q : Int) : List Int := [k, if 1 ≤ opsOf k then f a else a, if opsOf k = 2 then f b else b, p, q]
def movF : LF
  | [k, a, b, p, q], [ix] => mvL (fun x => W16 (ix.getD x.toNat 0)) k a b p q
  | _, _ => []
def nodeAt (d : Int) (u : List Int) (n : Nat) : List Int := mvL (fun x => d + x) (W8 (u.getD (n * 5) 0)) (W16 (u.getD (n * 5 + 1) 0)) (W16 (u.getD (n * 5 + 2) 0)) (u.getD (n * 5 + 3) 0) (u.getD (n * 5 + 4) 0)
def joinL (d : Int) (u : List Int) : Nat → List Int
  | 0 => []
  | n + 1 => joinL d u n ++ nodeAt d u n
abbrev LT := List Int → List (List Int) → List Int × List (List Int)
noncomputable def joinF (c : Int) : LT
  | [], [l, u] => if ValidT l ∧ ValidT u then (if 40 < (l.length : Int) / 5 + (u.length : Int) / 5 then ([c, 3], [[]]) else ([0, 0], [l ++ joinL ((l.length : Int) / 5) u (u.length / 5)])) else ([c, 1], [[]])
  | _, _ => ([], [])
def cloneF : LT
  | [], [l] => ([0], [l])
  | _, _ => ([], [])
def mk5 (k : Int) (j : Nat) : Int := if j % 5 = 0 then W8 (k + j) else if j % 5 = 1 ∨ j % 5 = 2 then W16 (k + j) else k + j
def markL (k : Int) (l : List Int) : List Int := (List.range l.length).map fun j => if j < l.length / 5 * 5 then mk5 k j else l.getD j 0
def markF : LT
  | [k], [l] => ([k + 5 * ((l.length : Int) / 5)], [markL k l])
  | _, _ => ([], [])
def heldAt (k : Int) (l : List Int) (n : Nat) : Prop := W8 (l.getD (n * 5) 0) = W8 (k + 5 * n) ∧ W16 (l.getD (n * 5 + 1) 0) = W16 (k + 5 * n + 1) ∧ W16 (l.getD (n * 5 + 2) 0) = W16 (k + 5 * n + 2) ∧ l.getD (n * 5 + 3) 0 = k + 5 * n + 3 ∧ l.getD (n * 5 + 4) 0 = k + 5 * n + 4
def Held (k : Int) (l : List Int) : Prop := ∀ n : Nat, (n : Int) < (l.length : Int) / 5 → heldAt k l n
noncomputable instance (k : Int) (l : List Int) : Decidable (Held k l) := Classical.propDecidable _
noncomputable def heldV (k : Int) (l : List Int) : Int := if Held k l then k + 5 * ((l.length : Int) / 5) else -1
noncomputable def heldF : LF
  | [k], [l] => [heldV k l]
  | _, _ => []
def preMk : LQ
  | [k], [l] => (1 ≤ k ∧ k ≤ 1099511627777) ∧ (l.length : Int) ≤ 1099511627776
  | _, _ => False
def preMv : LQ
  | [k, a, b, _, _], [ix] => (1 ≤ opsOf k → 0 ≤ a ∧ a < (ix.length : Int)) ∧ (opsOf k = 2 → 0 ≤ b ∧ b < (ix.length : Int))
  | _, _ => False
def preCl : LQ
  | [], [l] => 0 < (l.length : Int) ∧ (l.length : Int) ≤ 1099511627776
  | _, _ => False
def lookT (l : List (Nat × LT)) : Nat → Option LT := match l with
  | [] => fun _ => none
  | (h, f) :: r => fun g => bif Nat.beq h g then some f else lookT r g
noncomputable def tbN : Tab := ⟨sigOf [(15, s15), (5, s5), (17, s17), (9, s9), (21, s21), (25, s25), (26, s26), (22, s22),
    (27, s27), (23, s23), (16, s16), (14, s14), (6, s6), (8, s8), (3, s3),
    (18, s18), (20, s20), (13, s13), (4, s4)],
  lookU [(15, idF), (17, eq5F), (21, inF), (25, oneF), (26, twoF), (22, nodeF), (27, opsF), (23, bareF), (16, nodeF)] (fun _ _ => []),
  lookL [(5, szF), (9, sameF), (14, validF), (6, validF), (8, validF), (3, lawF), (18, movF), (20, movF), (13, heldF), (4, lawF)],
  lookT [(10, joinF 0), (11, joinF 1), (19, cloneF), (12, markF)]⟩
/-- Places are not negative. -/
def prN : Nat → LQ := lookQ [(22, fun xs _ => 0 ≤ xs.getD 5 0), (18, preMv), (20, preMv), (13, preMk), (12, preMk), (19, preCl)]
abbrev CN (g : Nat) (s : Sig) : Prop := CT Try.prog tbN.fns (presQ prN) g s

theorem cToNode : CN 15 s15 :=
  k15 tbN noI noM prN trivial trivial rfl trivial trivial (fun _ _ h _ => h) fun a b c d e _ _ _ => by
    unfold p15; rfl
theorem cEqNode : CN 17 s17 :=
  k17 tbN noI noM prN trivial trivial rfl trivial trivial (fun _ _ h _ => h) fun a b c d e a' b' c' d' e' _ _ _ => by
    unfold p17
    rw [show tbN.app 17 [a, b, c, d, e, a', b', c', d', e'] [] = [if a = a' ∧ b = b' ∧ c = c' ∧ d = d' ∧ e = e' then 1 else 0] from rfl]
    simp only [Bool.not_eq_true', Bool.not_eq_false', decide_eq_true_eq, decide_eq_false_iff_not]
    refine ⟨fun h => by rw [if_neg (fun e => h e.1)], fun h => ⟨fun h2 => by rw [if_neg (fun e => h2 e.2.1)], fun h2 => ⟨fun h3 => by rw [if_neg (fun e => h3 e.2.2.1)], fun h3 => ⟨fun h4 => by rw [if_neg (fun e => h4 e.2.2.2.1)], fun h4 => ⟨fun h5 => by rw [if_neg (fun e => h5 e.2.2.2.2)], fun h5 => by rw [if_pos ⟨h, h2, h3, h4, h5⟩]⟩⟩⟩⟩⟩
theorem cSz : CN 5 s5 := by
  refine k5 tbN noI noM prN trivial trivial rfl trivial trivial (fun _ _ h _ => h) fun x l hx hl _ => ?_
  simp only [p5, decide_eq_true_eq, decide_eq_false_iff_not]
  intro y hy
  show (y < 0 → [-1] = [sz5 x l]) ∧ (¬ y < 0 → [y] = [sz5 x l])
  unfold sz5
  rw [← show y = W (x - (l.length : Int) / 5) from hy]
  exact ⟨fun h => by rw [if_pos h], fun h => by rw [if_neg h]⟩
theorem sz5_has (x : Int) (l : List Int) : I64 (sz5 x l) := by
  unfold sz5
  split
  · exact ⟨by decide, by decide⟩
  · exact W_has _
theorem szT {x y : Int} {l : List Int} (hy : [y] = tbN.outL 5 1 [x] [l]) : y = sz5 x l := by
  have := outP (F := szF) (s := s5) rfl rfl rfl hy (hasI (sz5_has _ _))
  simpa only [szF, List.cons.injEq, and_true] using this
theorem sz5_le {x : Int} {l : List Int} (hx : 0 ≤ x ∧ x ≤ 1048576) (hl : (l.length : Int) ≤ 9223372036854775807 * 5) (h : ¬ sz5 x l < 0) : sz5 x l = x - (l.length : Int) / 5 ∧ 0 ≤ x - (l.length : Int) / 5 := by
  unfold sz5 at h ⊢
  have : W (x - (l.length : Int) / 5) = x - (l.length : Int) / 5 := W_id ⟨by omega, by omega⟩
  rw [this] at h ⊢
  split at h
  · omega
  · rename_i h'
    rw [if_neg h']; exact ⟨rfl, by omega⟩

/-! ### Equality -/
def invS (_ : Nat) (ρ σ : Env) : Prop := match ρ.l, σ.i with
  | [a, b], [i] => 0 ≤ i ∧ i ≤ (a.length : Int) / 5 ∧ (a.length : Int) / 5 = (b.length : Int) / 5 ∧ ∀ j : Nat, (j : Int) < i → EqAt a b j
  | _, _ => False
def muS (_ : Nat) (ρ σ : Env) : Nat := match ρ.l, σ.i with
  | a :: _, [i] => ((a.length : Int) / 5 - i).toNat
  | _, _ => 0
theorem tn0 (n : Nat) : ((n : Int) * 5).toNat = n * 5 := by omega
theorem tn1 (n : Nat) : ((n : Int) * 5 + 1).toNat = n * 5 + 1 := by omega
theorem tn2 (n : Nat) : ((n : Int) * 5 + 2).toNat = n * 5 + 2 := by omega
theorem tn3 (n : Nat) : ((n : Int) * 5 + 3).toNat = n * 5 + 3 := by omega
theorem tn4 (n : Nat) : ((n : Int) * 5 + 4).toNat = n * 5 + 4 := by omega
theorem eq_next {a b : List Int} {n : Nat} (h4 : ∀ j : Nat, (j : Int) < n → EqAt a b j) (hn : EqAt a b n) : ∀ j : Nat, (j : Int) < (n : Int) + 1 → EqAt a b j := fun j hj => by
  by_cases e : j = n
  · subst e; exact hn
  · exact h4 j (by omega)
theorem same_no {a b : List Int} {n : Nat} (hn : (n : Int) < (a.length : Int) / 5) (h : ¬ EqAt a b n) : ([0] : List Int) = sameF [] [a, b] := by
  show [0] = [if SameN a b then (1 : Int) else 0]
  rw [if_neg (fun e => h (e.2 n hn))]
theorem same_len {a b : List Int} (h : ¬ (a.length : Int) / 5 = (b.length : Int) / 5) : ([0] : List Int) = sameF [] [a, b] := by
  show [0] = [if SameN a b then (1 : Int) else 0]
  rw [if_neg (fun e => h e.1)]
theorem same_yes {a b : List Int} {n : Nat} (hl : (a.length : Int) / 5 = (b.length : Int) / 5) (hn : ¬ (n : Int) < (a.length : Int) / 5) (h4 : ∀ j : Nat, (j : Int) < n → EqAt a b j) : ([1] : List Int) = sameF [] [a, b] := by
  show [1] = [if SameN a b then (1 : Int) else 0]
  rw [if_pos ⟨hl, fun j hj => h4 j (by omega)⟩]
theorem cEqNodes : CN 9 s9 := by
  refine k9 tbN invS muS prN ⟨rfl, trivial⟩ ⟨fun _ _ _ => trivial, trivial⟩ rfl ⟨cEqNode, trivial⟩ trivial (fun _ _ h _ => h) fun a b hx hl _ => ?_
  have hlen : (a.length : Int) ≤ 9223372036854775807 * 5 := hl.1.2
  have hb : (b.length : Int) ≤ 9223372036854775807 * 5 := hl.2.1.2
  simp only [p9, decide_eq_true_eq, decide_eq_false_iff_not, Bool.not_eq_true', Bool.not_eq_false', Int.zero_add]
  refine ⟨fun h => same_len h, fun h => ⟨⟨hasI ⟨by decide, by decide⟩, Int.le_refl _, by omega, h, fun j hj => by omega⟩, fun i hi hI => ?_⟩⟩
  obtain ⟨h1, h2, h3, h4⟩ : 0 ≤ i ∧ i ≤ (a.length : Int) / 5 ∧ (a.length : Int) / 5 = (b.length : Int) / 5 ∧ ∀ j : Nat, (j : Int) < i → EqAt a b j := hI
  obtain ⟨n, rfl⟩ := Int.eq_ofNat_of_zero_le h1
  rw [tn0, tn1, tn2, tn3, tn4]
  refine ⟨fun hlt => ⟨⟨h1, hlt, by omega, h1, by omega, by omega⟩, fun _ v0 e0 v1 e1 v2 e2 v3 e3 v4 e4 v5 e5 v6 e6 v7 e7 v8 e8 v9 e9 v10 e10 => ?_⟩, fun hge => same_yes h3 hge h4⟩
  have e0 := outN (T := tbN) (g := 17) (F := eq5F) rfl rfl rfl rfl e0 (bool_has _)
  simp only [eq5F, List.cons.injEq, and_true] at e0
  have key : v0 = 1 ↔ EqAt a b n := one01 e0
  refine ⟨fun h => same_no hlt fun e => h (key.2 e), fun h z hz => ?_⟩
  rw [show IntKind.wrap .i64 ((n : Int) + 1) = (n : Int) + 1 from W_id ⟨by omega, by omega⟩] at hz
  subst hz
  refine ⟨hasI ⟨by omega, by omega⟩, ⟨by omega, by omega, h3, eq_next h4 (key.1 h)⟩, ?_⟩
  show ((a.length : Int) / 5 - (n + 1)).toNat < ((a.length : Int) / 5 - n).toNat
  omega
theorem same_has (a b : List Int) : allHas [⟨0, 1⟩] (sameF [] [a, b]) := bool_has (SameN a b)
/-! ### Copies -/
def invCp5 (_ : Nat) (ρ σ : Env) : Prop := match ρ.l, σ.i, σ.l with
  | [l], [i], [o] => 0 ≤ i ∧ i ≤ (l.length : Int) / 5 ∧ o.length = l.length ∧ ∀ j : Nat, (j : Int) < i * 5 → o[j]? = l[j]?
  | _, _, _ => False
def muCp5 (_ : Nat) (ρ σ : Env) : Nat := match ρ.l, σ.i with
  | [l], [i] => ((l.length : Int) / 5 - i).toNat
  | _, _ => 0
theorem gD {l : List Int} {n : Nat} (h : n < l.length) : l[n]? = some (l.getD n 0) := by
  rw [List.getD_eq_getElem?_getD, List.getElem?_eq_getElem h]; rfl
theorem set5 {o l : List Int} {p : Nat} (h : p + 4 < l.length) (hl : o.length = l.length) (hj : ∀ j, j < p → o[j]? = l[j]?) (j : Nat) (hp : j < p + 5) :
    (((((o.set p (l.getD p 0)).set (p + 1) (l.getD (p + 1) 0)).set (p + 2) (l.getD (p + 2) 0)).set (p + 3) (l.getD (p + 3) 0)).set (p + 4) (l.getD (p + 4) 0))[j]? = l[j]? := by
  simp only [List.getElem?_set, List.length_set]
  by_cases e4 : p + 4 = j
  · subst e4; rw [if_pos rfl, if_pos (by omega), gD h]
  rw [if_neg e4]
  by_cases e3 : p + 3 = j
  · subst e3; rw [if_pos rfl, if_pos (by omega), gD (by omega)]
  rw [if_neg e3]
  by_cases e2 : p + 2 = j
  · subst e2; rw [if_pos rfl, if_pos (by omega), gD (by omega)]
  rw [if_neg e2]
  by_cases e1 : p + 1 = j
  · subst e1; rw [if_pos rfl, if_pos (by omega), gD (by omega)]
  rw [if_neg e1]
  by_cases e0 : p = j
  · subst e0; rw [if_pos rfl, if_pos (by omega), gD (by omega)]
  rw [if_neg e0]
  exact hj j (by omega)
theorem kind_at {l : List Int} (hk : Kinds ndK l) {n f : Nat} {k : IntKind} (hf : ndK[f]? = some k) (h : n * 5 + f < l.length) : (kiv k).has (l.getD (n * 5 + f) 0) := by
  have := hk.1 (n * 5 + f) _ (gD h)
  have e := kindAt_mul (ks := ndK) (j := n) (s := 5) (f := f) (i := 0) (k := k) rfl (by simpa using hf)
  rw [Nat.add_zero] at e
  rwa [e] at this
theorem toNodeS_cp : CTC Try.prog 7 s7 y7 := by
  refine k7 tbN invCp5 muCp5 prN (by exact ⟨rfl, trivial⟩) (by exact ⟨fun _ _ _ => trivial, trivial⟩) (by exact ⟨cToNode, trivial⟩) trivial fun l hl hkk => ?_
  have hlen : (l.length : Int) ≤ 1099511627776 := hl.1.2
  have hk : Kinds ndK l := hkk 0 ndK rfl
  have h5 : l.length % 5 = 0 := hk.2
  simp only [p7, decide_eq_true_eq, decide_eq_false_iff_not, Int.le_refl, true_and, forall_const, List.length_replicate, Int.zero_add]
  have r1 : (((l.length : Int) / 5) * 5).toNat = l.length := by omega
  rw [r1]
  refine ⟨⟨hasI ⟨by decide, by decide⟩, Int.le_refl _, by omega, by simp, fun j hj => by omega⟩, fun i o hi ho hI => ?_⟩
  obtain ⟨h1, h2, h3, h4⟩ : 0 ≤ i ∧ i ≤ (l.length : Int) / 5 ∧ o.length = l.length ∧ ∀ j : Nat, (j : Int) < i * 5 → o[j]? = l[j]? := hI
  obtain ⟨n, rfl⟩ := Int.eq_ofNat_of_zero_le h1
  rw [tn0, tn1, tn2, tn3, tn4]
  refine ⟨fun hlt => ⟨by rw [h3], fun _ => ⟨⟨h1, hlt⟩, fun _ => ⟨by omega, fun _ v1 e1 v2 e2 v3 e3 v4 e4 v5 e5 v6 v7 v8 v9 v10 hv => ⟨⟨h1, by omega⟩, fun _ => ⟨by omega, fun _ z hz => ?_⟩⟩⟩⟩⟩, fun hge => ⟨by rw [h3], fun _ => ?_⟩⟩
  · have k0 : (kiv .i8).has (l.getD (n * 5) 0) := kind_at hk (n := n) (f := 0) rfl (by omega)
    have k1 : (kiv .i16).has (l.getD (n * 5 + 1) 0) := kind_at hk (n := n) (f := 1) rfl (by omega)
    have k2 : (kiv .i16).has (l.getD (n * 5 + 2) 0) := kind_at hk (n := n) (f := 2) rfl (by omega)
    have k3 : (kiv .i64).has (l.getD (n * 5 + 3) 0) := kind_at hk (n := n) (f := 3) rfl (by omega)
    have k4 : (kiv .i64).has (l.getD (n * 5 + 4) 0) := kind_at hk (n := n) (f := 4) rfl (by omega)
    rw [wrap_id k0] at e1
    rw [wrap_id k1] at e2
    rw [wrap_id k2] at e3
    have hv := outN (T := tbN) (g := 15) (F := idF) rfl rfl rfl rfl hv (by subst e1 e2 e3 e4 e5; exact ⟨k0, k1, k2, k3, k4, trivial⟩)
    simp only [idF, List.cons.injEq, and_true] at hv
    obtain ⟨rfl, rfl, rfl, rfl, rfl⟩ := hv
    subst e1 e2 e3 e4 e5
    rw [show IntKind.wrap .i64 ((n : Int) + 1) = (n : Int) + 1 from W_id ⟨by omega, by omega⟩] at hz
    subst hz
    refine ⟨hasI ⟨by omega, by omega⟩, ⟨by omega, by omega, by simp only [List.length_set]; exact h3, fun j hj => set5 (by omega) h3 (fun j hj => h4 j (by omega)) j (by omega)⟩, ?_⟩
    show ((l.length : Int) / 5 - (n + 1)).toNat < ((l.length : Int) / 5 - n).toNat
    omega
  · have : o = l := List.ext_getElem? fun j => by
      by_cases hj : (j : Int) < (n : Int) * 5
      · exact h4 j hj
      · rw [List.getElem?_eq_none (by omega), List.getElem?_eq_none (by omega)]
    rw [this]

/-! ### Numbers -/
theorem ev1 {g : Nat} {s : Sig} {F : List Int → List Int} {x : Int} {xs : List Int} (h : tbN.sig g = some s) (hl : tbN.fl g = none) (hF : tbN.fn g = F) (hn : (resKds s).length = 1) (hx : F xs = [x]) (hr : allHas ((resKds s).map Kd.iv) [x]) (P : Int → Prop) :
    (∀ v : Int, [v] = tbN.out g 1 xs → P v) ↔ P x := by
  have e : tbN.out g 1 xs = [x] := by
    rw [tbN.out_eq h hn (by rw [hF, hx]; exact hr) hl, hF, hx]
  rw [e]
  exact ⟨fun h => h x rfl, fun h v hv => by simp only [List.cons.injEq, and_true] at hv; subst hv; exact h⟩
theorem b01_has (c : Prop) [Decidable c] : allHas [⟨0, 1⟩] [b01 c] := bool_has c
theorem inE (x lo hi : Int) (P : Int → Prop) : (∀ v : Int, [v] = tbN.out 21 1 [x, lo, hi] → P v) ↔ P (b01 (lo ≤ x ∧ x ≤ hi)) := ev1 (s := s21) (F := inF) rfl rfl rfl rfl rfl (b01_has _) P
theorem oneE (k : Int) (P : Int → Prop) : (∀ v : Int, [v] = tbN.out 25 1 [k] → P v) ↔ P (b01 (isOne k)) := ev1 (s := s25) (F := oneF) rfl rfl rfl rfl rfl (b01_has _) P
theorem twoE (k : Int) (P : Int → Prop) : (∀ v : Int, [v] = tbN.out 26 1 [k] → P v) ↔ P (b01 (isTwo k)) := ev1 (s := s26) (F := twoF) rfl rfl rfl rfl rfl (b01_has _) P
theorem ops_has (k : Int) : allHas [⟨-9223372036854775808, 9223372036854775807⟩] [opsOf k] := ⟨has1 (by unfold opsOf; split <;> (try split) <;> omega), trivial⟩
theorem opsE (k : Int) (P : Int → Prop) : (∀ v : Int, [v] = tbN.out 27 1 [k] → P v) ↔ P (opsOf k) := ev1 (s := s27) (F := opsF) rfl rfl rfl rfl rfl (ops_has _) P
theorem b01_one (c : Prop) [Decidable c] : b01 c = 1 ↔ c := by unfold b01; split <;> simp_all
theorem leaf0 {c : Prop} [Decidable c] (h : ¬ c) : ([0] : List Int) = [b01 c] := by unfold b01; rw [if_neg h]
theorem leaf1 {c : Prop} [Decidable c] (h : c) : ([1] : List Int) = [b01 c] := by unfold b01; rw [if_pos h]
theorem leafb {c c' : Prop} [Decidable c] [Decidable c'] (h : c' ↔ c) : ([if c' then 1 else 0] : List Int) = [b01 c] := by
  unfold b01
  by_cases k : c
  · rw [if_pos k, if_pos (h.2 k)]
  · rw [if_neg k, if_neg (fun e => k (h.1 e))]
theorem cIn : CN 21 s21 :=
  k21 tbN noI noM prN trivial trivial rfl trivial trivial (fun _ _ h _ => h) fun x lo hi _ _ _ => by
    unfold p21
    rw [show tbN.app 21 [x, lo, hi] [] = [b01 (lo ≤ x ∧ x ≤ hi)] from rfl]
    simp only [decide_eq_true_eq, decide_eq_false_iff_not]
    grind
theorem cOne : CN 25 s25 :=
  k25 tbN noI noM prN trivial trivial rfl trivial trivial (fun _ _ h _ => h) fun k _ _ _ => by
    unfold p25
    rw [show tbN.app 25 [k] [] = [b01 (isOne k)] from rfl]
    simp only [Bool.not_eq_true', Bool.not_eq_false', decide_eq_true_eq, decide_eq_false_iff_not]
    grind
theorem cTwo : CN 26 s26 :=
  k26 tbN noI noM prN trivial trivial rfl trivial trivial (fun _ _ h _ => h) fun k _ _ _ => by
    unfold p26
    rw [show tbN.app 26 [k] [] = [b01 (isTwo k)] from rfl]
    simp only [Bool.not_eq_true', Bool.not_eq_false', decide_eq_true_eq, decide_eq_false_iff_not]
    grind
theorem cOps : CN 27 s27 :=
  k27 tbN noI noM prN trivial trivial rfl trivial trivial (fun _ _ h _ => h) fun k _ _ _ => by
    unfold p27
    rw [show tbN.app 27 [k] [] = [opsOf k] from rfl]
    simp only [Bool.not_eq_true', Bool.not_eq_false', decide_eq_true_eq, decide_eq_false_iff_not]
    grind
theorem cBare : CN 23 s23 :=
  k23 tbN noI noM prN ⟨rfl, trivial⟩ ⟨fun _ _ _ => trivial, trivial⟩ rfl ⟨cOps, trivial⟩ trivial (fun _ _ h _ => h) fun k a b p q _ _ _ => by
    unfold p23
    rw [show tbN.app 23 [k, a, b, p, q] [] = bareF [k, a, b, p, q] from rfl]
    simp only [opsE, Bool.not_eq_true', Bool.not_eq_false', decide_eq_true_eq, decide_eq_false_iff_not, bareF]
    grind
theorem cNode : CN 22 s22 :=
  k22 tbN noI noM prN ⟨rfl, rfl, rfl, trivial⟩ ⟨fun _ _ _ => trivial, fun _ _ _ => trivial, fun _ _ _ => trivial, trivial⟩ rfl ⟨cOne, cTwo, cIn, trivial⟩ trivial (fun _ _ h _ => h) fun k a b p q i hx _ hp => by
    have hi : 0 ≤ i := hp
    have hI : I64 i := hx.2.2.2.2.2.1
    unfold p22
    rw [show tbN.app 22 [k, a, b, p, q, i] [] = [b01 (okN k a b p q i)] from rfl]
    have ew : IntKind.wrap .i64 (i - 1) = i - 1 := W_id ⟨by omega, by omega⟩
    simp only [oneE, twoE, inE, ew, Bool.not_eq_true', Bool.not_eq_false', decide_eq_true_eq, decide_eq_false_iff_not, b01_one]
    clear hx hp ew
    repeat' (first | apply And.intro | intro _)
    all_goals first | exact leaf0 (by simp only [okN, isOne, isTwo] at *; omega) | exact leaf1 (by simp only [okN, isOne, isTwo] at *; omega) | exact leafb (by simp only [okN, isOne, isTwo] at *; omega)
end Go.Proofs.Ytnnklfkjnhdadaa.Sx
