/-
  The root of a small number, by limbs: the functions and the table of them; what the limbs do.
-/
import Derived.Test.YtfpodondpanmaaaT0
import Derived.Test.YtfpodondpanmaaaG1
import Derived.Test.YtfpodondpanmaaaG2
import Derived.Test.YtfpodondpanmaaaG8
namespace Go.Proofs.Ytfpodondpanmaaa.Sx
open Go Go.RowKit
set_option linter.unusedVariables false
set_option linter.unusedSimpArgs false

theorem hasI {x : Int} (h : I64 x) : allHas [⟨-9223372036854775808, 9223372036854775807⟩] [x] := ⟨h, trivial⟩
theorem one01 {c : Prop} [Decidable c] {y : Int} (h : y = if c then 1 else 0) : y = 1 ↔ c := by
  rw [h]; split <;> simp_all

/-! ### The root of a number -/
def rootN : Nat → Nat
  | 0 => 0
  | n + 1 => if (rootN n + 1) * (rootN n + 1) ≤ n + 1 then rootN n + 1 else rootN n
theorem rootN_spec : ∀ n : Nat, rootN n * rootN n ≤ n ∧ n < (rootN n + 1) * (rootN n + 1)
  | 0 => by decide
  | n + 1 => by
    obtain ⟨h1, h2⟩ := rootN_spec n
    rw [rootN]
    split
    · rename_i h
      refine ⟨h, ?_⟩
      have : (rootN n + 1 + 1) * (rootN n + 1 + 1) = (rootN n + 1) * (rootN n + 1) + 2 * (rootN n + 1) + 1 := by grind
      omega
    · rename_i h
      exact ⟨by omega, by omega⟩
def rw' (n : Int) : Int := (rootN n.toNat : Int)
theorem rw_spec {n : Int} (h : 0 ≤ n) : 0 ≤ rw' n ∧ rw' n * rw' n ≤ n ∧ n < (rw' n + 1) * (rw' n + 1) := by
  obtain ⟨h1, h2⟩ := rootN_spec n.toNat
  refine ⟨by unfold rw'; omega, ?_, ?_⟩
  · have : ((rootN n.toNat * rootN n.toNat : Nat) : Int) ≤ (n.toNat : Int) := by omega
    rw [Int.natCast_mul, Int.toNat_of_nonneg h] at this
    exact this
  · have : (n.toNat : Int) < (((rootN n.toNat + 1) * (rootN n.toNat + 1) : Nat) : Int) := by omega
    rw [Int.natCast_mul, Int.toNat_of_nonneg h] at this
    exact this
theorem sq_lt {a b : Int} (ha : 0 ≤ a) (h : a * a < b * b) (hb : 0 ≤ b) : a < b := by
  rcases Int.lt_or_le a b with k | k
  · exact k
  · have := Int.mul_le_mul k k hb ha
    omega
theorem rw_uniq {n r : Int} (h : 0 ≤ n) (h0 : 0 ≤ r) (h1 : r * r ≤ n) (h2 : n < (r + 1) * (r + 1)) : r = rw' n := by
  obtain ⟨k0, k1, k2⟩ := rw_spec h
  have a := sq_lt (a := r) (b := rw' n + 1) h0 (by omega) (by omega)
  have b := sq_lt (a := rw' n) (b := r + 1) k0 (by omega) (by omega)
  omega
theorem rw_le {n : Int} (h : 0 ≤ n) (hn : n ≤ 1000000) : rw' n ≤ 1000 := by
  obtain ⟨k0, k1, k2⟩ := rw_spec h
  have := sq_lt (a := rw' n) (b := 1001) k0 (by omega) (by omega)
  omega

/-! ### The functions -/
def usedF : List Int → List Int
  | [a, _, _, _, _, _] => [if a = 0 then 0 else 1]
  | _ => []
def zeroF : List Int → List Int
  | [a, _, _, _, _, _] => [if a = 0 then 1 else 0]
  | _ => []
def cmpLF : List Int → List Int
  | [a, _, _, _, _, _, b, _, _, _, _, _] => [if a = b then 0 else if a < b then -1 else 1]
  | _ => []
def plusF : List Int → List Int
  | [a, _, _, _, _, _, b, _, _, _, _, _] => [a + b, 0, 0, 0, 0, 0, 0]
  | _ => []
def upF : List Int → List Int
  | [_, _, _, _, _, _, k] => [2 ^ k.toNat, 0, 0, 0, 0, 0]
  | _ => []
def downF : List Int → List Int
  | [a, _, _, _, _, _, _] => [a / 2, 0, 0, 0, 0, 0]
  | _ => []
def lenT : List Int := [0, 1, 2, 2, 3, 3, 3, 3, 4, 4, 4, 4, 4, 4, 4, 4, 5, 5, 5, 5, 5, 5, 5, 5, 5, 5, 5, 5, 5, 5, 5, 5, 6, 6, 6, 6, 6, 6, 6, 6, 6, 6, 6, 6, 6, 6, 6, 6, 6, 6, 6, 6, 6, 6, 6, 6, 6, 6, 6, 6, 6, 6, 6, 6, 7, 7, 7, 7, 7, 7, 7, 7, 7, 7, 7, 7, 7, 7, 7, 7, 7, 7, 7, 7, 7, 7, 7, 7, 7, 7, 7, 7, 7, 7, 7, 7, 7, 7, 7, 7, 7, 7, 7, 7, 7, 7, 7, 7, 7, 7, 7, 7, 7, 7, 7, 7, 7, 7, 7, 7, 7, 7, 7, 7, 7, 7, 7, 7, 8, 8, 8, 8, 8, 8, 8, 8, 8, 8, 8, 8, 8, 8, 8, 8, 8, 8, 8, 8, 8, 8, 8, 8, 8, 8, 8, 8, 8, 8, 8, 8, 8, 8, 8, 8, 8, 8, 8, 8, 8, 8, 8, 8, 8, 8, 8, 8, 8, 8, 8, 8, 8, 8, 8, 8, 8, 8, 8, 8, 8, 8, 8, 8, 8, 8, 8, 8, 8, 8, 8, 8, 8, 8, 8, 8, 8, 8, 8, 8, 8, 8, 8, 8, 8, 8, 8, 8, 8, 8, 8, 8, 8, 8, 8, 8, 8, 8, 8, 8, 8, 8, 8, 8, 8, 8, 8, 8, 8, 8, 8, 8, 8, 8, 8, 8, 8, 8, 8, 8, 8, 8, 8, 8, 8, 8, 8, 8]
def lenV (x : Int) : Int := if 65536 ≤ x then 16 + lenT.getD (x / 65536).toNat 0 else if 256 ≤ x then 8 + lenT.getD (x / 256).toNat 0 else 0 + lenT.getD x.toNat 0
def lenF : List Int → List Int
  | [x] => [lenV x]
  | _ => []
def bitsF : List Int → List Int
  | [a, _, _, _, _, _] => [if a = 0 then 0 else lenV a]
  | _ => []
def dsF : List Int → List Int
  | [a, _, _, _, _, _, y] => [a / y, 0, 0, 0, 0, 0, a % y]
  | _ => []
def divF : List Int → List Int
  | [a, _, _, _, _, _, b, _, _, _, _, _] => if a < b then [0, 0, 0, 0, 0, 0, a, 0, 0, 0, 0, 0] else [a / b, 0, 0, 0, 0, 0, a % b, 0, 0, 0, 0, 0]
  | _ => []
def rootF : List Int → List Int
  | [a, _, _, _, _, _] => [rw' a, 0, 0, 0, 0, 0]
  | _ => []
def oneF (_ : List Int) : List Int := [1]
def wosF : List Int → List Int
  | [_, a, _, _, _, _, _] => [0, a, 0, 0, 0, 0, 0]
  | _ => []
def wofF : List Int → List Int
  | [n] => [0, n, 0, 0, 0, 0, 0]
  | _ => []
def rwF : List Int → List Int
  | [_, a, _, _, _, _, _] => [0, rw' a, 0, 0, 0, 0, 0, 0]
  | _ => []
def narF : List Int → List Int
  | [_, a, _, _, _, _, _] => [a, 0]
  | _ => []
def in3F : List Int → List Int
  | [x, a, b] => [if a ≤ x ∧ x ≤ b then 1 else 0]
  | _ => []
def sRootF : List Int → List Int
  | [n] => [rw' n]
  | _ => []
def eqF : LF
  | [], [a, b] => [if a = b then 1 else 0]
  | _, _ => []
abbrev LT := List Int → List (List Int) → List Int × List (List Int)

/-! ### The terms of a root -/
/-- From some terms on, the last one of which is t; so many more are allowed. -/
def perW (n f : Int) : Nat → Int → Int → Int → List Int → Option (List Int)
  | k, m, d, t, l => if t = 2 * f then some l else match k with
    | 0 => none
    | k + 1 => perW n f k (d * t - m) ((n - (d * t - m) * (d * t - m)) / d) ((f + (d * t - m)) / ((n - (d * t - m) * (d * t - m)) / d))
        (l ++ [(f + (d * t - m)) / ((n - (d * t - m) * (d * t - m)) / d)])
/-- All terms of the root of n, which is no integer, with its integer below. -/
def termsR (n f : Int) : Option (List Int) := perW n f 2999 f (n - f * f) ((f + f) / (n - f * f)) [(f + f) / (n - f * f)]
def perF (a b : Int) : LT
  | [n], _ => if 0 ≤ n ∧ n ≤ 1000000 then (if rw' n * rw' n = n then ([a, rw' n, 0], [[]]) else match termsR n (rw' n) with
      | some l => ([0, rw' n, 0], [l])
      | none => ([a, 0, 3], [[]])) else ([b, 0, 2], [[]])
  | _, _ => ([], [])
/-- The term of a root at a place. -/
def atV (f : Int) (l : List Int) (k : Int) : Int := if k = 0 then f else l.getD ((k - 1) % (l.length : Int)).toNat 0
def atF : LF
  | [f, k], [l] => [atV f l k]
  | _, _ => []
def preAt : LQ
  | [_, k], [l] => (0 ≤ k ∧ k ≤ 1000000000) ∧ (k = 0 ∨ 0 < l.length)
  | _, _ => False
def idxSF : LT
  | [n, k, q], _ => if 0 ≤ n ∧ n ≤ 1000000 then (if 0 ≤ k ∧ k ≤ q then (match perF 0 0 [n] [] with
      | ([a, f, c], [l]) => if c = 0 ∧ l = [] ∧ 0 < k then ([a, f, 6], [l]) else ([a, f, c], [l])
      | _ => ([], [])) else ([0, 0, 2], [[]])) else ([0, 0, 2], [[]])
  | _, _ => ([], [])
def idxPF : LT
  | [n, k, q], _ => if (0 ≤ n ∧ n ≤ 1000000) ∧ (0 ≤ k ∧ k ≤ q) then (match perF 1 1 [n] [] with
      | ([a, f, c], [l]) => if ¬ c = 0 then ([1, 0, c], [[]]) else if l = [] ∧ 0 < k then ([1, 0, 6], [[]]) else ([a, f, 0], [l])
      | _ => ([], [])) else ([1, 0, 2], [[]])
  | _, _ => ([], [])
def rtF : List Int → List Int
  | [n, k] => if (0 ≤ n ∧ n ≤ 1000000) ∧ (0 ≤ k ∧ k ≤ 1000000000) then (match perF 0 0 [n] [] with
      | ([_, f, c], [l]) => if ¬ c = 0 then [0, c] else if l = [] ∧ 0 < k then [0, 6] else [atV f l k, 0]
      | _ => []) else [0, 2]
  | _ => []
def markL (k : Int) (l : List Int) : List Int := (List.range l.length).map fun i : Nat => k + (i : Int)
def markF : LT
  | [k], [l] => ([k + (l.length : Int)], [markL k l])
  | _, _ => ([], [])
def heldV (k : Int) (l : List Int) : Int := if ∀ j, j < l.length → l.getD j 0 = k + (j : Int) then k + (l.length : Int) else -1
def heldF : LF
  | [k], [l] => [heldV k l]
  | _, _ => []
def preMk : LQ
  | [k], [l] => k = 1 ∧ (l.length : Int) ≤ 1099511627776
  | _, _ => False
def lookT (l : List (Nat × LT)) : Nat → Option LT := match l with
  | [] => fun _ => none
  | (h, f) :: r => fun g => bif Nat.beq h g then some f else lookT r g
abbrev preH (l : List Iv) : LQ := fun xs _ => allHas l xs
abbrev preH0 (l : List Iv) : LQ := fun xs _ => allHas l xs ∧ xs.headD 1 = 0
def tblG : List (Nat × (List Int → List Int)) := [(89, usedF), (83, zeroF), (78, cmpLF), (87, plusF), (84, upF), (88, downF),
  (90, lenF), (85, bitsF), (92, dsF), (86, divF), (80, rootF), (48, oneF), (79, wosF), (72, wofF),
  (71, rwF), (73, narF), (62, in3F), (70, sRootF), (9, oneF),
  (33, rtF), (34, rtF), (10, oneF)]
def tblGL : List (Nat × LF) := [(16, eqF), (28, heldF), (55, atF), (57, atF)]
def tblGT : List (Nat × LT) := [(52, perF 0 0), (31, perF 0 0), (53, perF 1 1), (32, perF 1 1), (27, markF), (54, idxSF), (56, idxPF)]
def sigsG : List (Nat × Sig) := [(89, s89), (83, s83), (78, s78), (87, s87), (84, s84),
  (88, s88), (90, s90), (85, s85), (92, s92), (86, s86), (80, s80),
  (48, s48), (79, s79), (72, s72), (71, s71), (73, s73), (62, s62), (70, s70),
  (9, s9), (16, s16), (28, s28),
  (33, s33), (34, s34), (10, s10), (55, s55), (57, s57)]
def tbG : Tab := ⟨sigOf sigsG, lookU tblG (fun _ _ => []), lookL tblGL, lookT tblGT⟩
abbrev preWO : LQ := preH iv72
abbrev prG : Nat → LQ := lookQ [(89, preH iv89), (83, preH iv83), (78, preH iv78), (87, preH iv87),
  (84, fun xs _ => allHas iv84 xs ∧ xs.getD 0 0 = 1), (88, fun xs _ => allHas iv88 xs ∧ xs.getD 6 0 = 1), (90, preH iv90), (85, preH iv85), (92, fun xs _ => allHas iv92 xs ∧ xs.getD 6 0 ≠ 0),
  (86, fun xs _ => allHas iv86 xs ∧ xs.getD 6 0 ≠ 0), (80, preH iv80), (48, preH0 iv48), (79, preH0 iv79), (72, preWO),
  (71, preH0 iv71), (73, preH0 iv73), (53, preH [⟨0, 1000000⟩]), (70, preH [⟨0, 1000000⟩]), (27, preMk), (28, preMk), (55, preAt), (57, preAt)]
abbrev CG (g : Nat) (s : Sig) : Prop := CT Try.prog tbG.fns (presQ prG) g s

/-! ### Bits -/
theorem or0_64 {x : Int} (h0 : 0 ≤ x) (h1 : x ≤ 4294967295) : bitsInt .or .u64 0 x = x := by
  obtain ⟨n, rfl⟩ := Int.eq_ofNat_of_zero_le h0
  have e : (BitVec.ofInt 64 0 ||| BitVec.ofInt 64 (n : Int)).toNat = n := by
    rw [BitVec.toNat_or, BitVec.ofInt_natCast, BitVec.toNat_ofNat, show (BitVec.ofInt 64 0).toNat = 0 from rfl, Nat.zero_or]
    exact Nat.mod_eq_of_lt (by omega)
  show IntKind.wrap .u64 ((BitVec.ofInt 64 0 ||| BitVec.ofInt 64 (n : Int)).toNat : Int) = _
  rw [e]
  exact wrap_id ⟨by show (0 : Int) ≤ _; omega, by show _ ≤ (18446744073709551615 : Int); omega⟩
theorem or32_0 {x : Int} (h0 : 0 ≤ x) (h1 : x ≤ 4294967295) : bitsInt .or .u32 x 0 = x := by
  obtain ⟨n, rfl⟩ := Int.eq_ofNat_of_zero_le h0
  have e : (BitVec.ofInt 32 (n : Int) ||| BitVec.ofInt 32 0).toNat = n := by
    rw [BitVec.toNat_or, BitVec.ofInt_natCast, BitVec.toNat_ofNat, show (BitVec.ofInt 32 0).toNat = 0 from rfl, Nat.or_zero]
    exact Nat.mod_eq_of_lt (by omega)
  show IntKind.wrap .u32 ((BitVec.ofInt 32 (n : Int) ||| BitVec.ofInt 32 0).toNat : Int) = _
  rw [e]
  exact wrap_id ⟨by show (0 : Int) ≤ _; omega, by show _ ≤ (4294967295 : Int); omega⟩
theorem or00 : bitsInt .or .u32 0 0 = 0 := by decide
theorem or00' : bitsInt .or .u64 0 0 = 0 := by decide

theorem lenT_ok : ((List.range 256).all fun v => decide (v < 2 ^ (lenT.getD v 0).toNat) && (decide (0 ≤ lenT.getD v 0) && (decide (lenT.getD v 0 ≤ 8) && (decide (v = 0 ∨ 2 ^ (lenT.getD v 0 - 1).toNat ≤ v) && decide (v ≤ 15 → lenT.getD v 0 ≤ 4))))) = true := by decide +kernel
theorem lenT_spec {x : Int} (h0 : 0 ≤ x) (h1 : x < 256) : x < 2 ^ (lenT.getD x.toNat 0).toNat ∧ 0 ≤ lenT.getD x.toNat 0 ∧ lenT.getD x.toNat 0 ≤ 8 ∧ (x ≤ 15 → lenT.getD x.toNat 0 ≤ 4) := by
  have h := List.all_eq_true.1 lenT_ok x.toNat (List.mem_range.2 (by omega))
  simp only [Bool.and_eq_true, decide_eq_true_eq] at h
  obtain ⟨a, b, c, _, e⟩ := h
  refine ⟨?_, b, c, fun k => e (by omega)⟩
  have : ((x.toNat : Nat) : Int) < ((2 ^ (lenT.getD x.toNat 0).toNat : Nat) : Int) := by omega
  rw [Int.toNat_of_nonneg h0] at this
  simpa using this
/-- So many bits are enough. -/
theorem lenV_spec {x : Int} (h0 : 1 ≤ x) (h1 : x ≤ 1000000) : 0 ≤ lenV x ∧ lenV x ≤ 20 ∧ x < 2 ^ (lenV x).toNat := by
  unfold lenV
  split
  · obtain ⟨a, b, c, d⟩ := lenT_spec (x := x / 65536) (by omega) (by omega)
    have d := d (by omega)
    refine ⟨by omega, by omega, ?_⟩
    rw [show (16 + lenT.getD (x / 65536).toNat 0).toNat = (lenT.getD (x / 65536).toNat 0).toNat + 16 by omega, Int.pow_add]
    have : (2 : Int) ^ 16 = 65536 := by decide
    omega
  · split
    · obtain ⟨a, b, c, d⟩ := lenT_spec (x := x / 256) (by omega) (by omega)
      refine ⟨by omega, by omega, ?_⟩
      rw [show (8 + lenT.getD (x / 256).toNat 0).toNat = (lenT.getD (x / 256).toNat 0).toNat + 8 by omega, Int.pow_add]
      have : (2 : Int) ^ 8 = 256 := by decide
      omega
    · obtain ⟨a, b, c, d⟩ := lenT_spec (x := x) (by omega) (by omega)
      exact ⟨by omega, by omega, by rw [Int.zero_add]; exact a⟩
end Go.Proofs.Ytfpodondpanmaaa.Sx
