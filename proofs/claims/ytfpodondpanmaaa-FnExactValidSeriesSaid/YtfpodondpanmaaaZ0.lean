/-
  Functions on polynomials and series, and the table of them.
-/
import Derived.Test.YtfpodondpanmaaaA2
import Derived.Test.YtfpodondpanmaaaB1
import Derived.Test.YtfpodondpanmaaaB2
import Derived.Test.YtfpodondpanmaaaB3
namespace Go.Proofs.Ytfpodondpanmaaa.Sx
open Go Go.RowKit
set_option linter.unusedVariables false
set_option linter.unusedSimpArgs false

theorem hasI {x : Int} (h : I64 x) : allHas [⟨-9223372036854775808, 9223372036854775807⟩] [x] := ⟨h, trivial⟩
theorem hasI2 {x y : Int} (h : I64 x) (k : I64 y) : allHas [⟨-9223372036854775808, 9223372036854775807⟩, ⟨-9223372036854775808, 9223372036854775807⟩] [x, y] := ⟨h, k, trivial⟩
theorem one01 {c : Prop} [Decidable c] {y : Int} (h : y = if c then 1 else 0) : y = 1 ↔ c := by
  rw [h]; split <;> simp_all
def lawN (_ : List Int) : List Int := [1]
def lawF : LF := fun _ _ => [1]
def idF (xs : List Int) : List Int := xs
def in3F : List Int → List Int
  | [x, a, b] => [if a ≤ x ∧ x ≤ b then 1 else 0]
  | _ => []
def wiF : List Int → List Int
  | [x, m] => [if W (0 - m) ≤ x ∧ x ≤ m then 1 else 0]
  | _ => []
def absF : List Int → List Int
  | [x] => [if x < 0 then W (0 - x) else x]
  | _ => []
def max2F : List Int → List Int
  | [x, y] => [if y < x then x else y]
  | _ => []
def eqF : LF
  | [], [a, b] => [if a = b then 1 else 0]
  | _, _ => []
abbrev VSer (n d f s : Int) : Prop := (2 ≤ d ∧ d ≤ 1000) ∧ (1 ≤ n ∧ n ≤ d / 2) ∧ (1 ≤ f ∧ f ≤ 1000) ∧ (0 ≤ s ∧ s ≤ 1000)
def serF : List Int → List Int
  | [n, d, f, s, _] => [if VSer n d f s then 1 else 0]
  | _ => []
abbrev In6 (x : Int) : Prop := -1000000 ≤ x ∧ x ≤ 1000000
abbrev VP (l : List Int) : Prop := (2 ≤ (l.length : Int) ∧ (l.length : Int) ≤ 9) ∧ (∀ i, i < l.length → In6 (l.getD i 0)) ∧ ¬ l.getD (l.length - 1) 0 = 0
def vpF : LF
  | [], [l] => [if VP l then 1 else 0]
  | _, _ => []
def absI (x : Int) : Int := if x < 0 then -x else x
/-- The greatest size of the first n numbers. -/
def mostA (l : List Int) : Nat → Int
  | 0 => 0
  | n + 1 => if mostA l n < absI (l.getD n 0) then absI (l.getD n 0) else mostA l n
/-- The least m with t * (2 to the power m less 1) at least o. -/
def leastM (t o : Int) : Nat → Nat → Int
  | 0, m => (m : Int)
  | f + 1, m => if t * (2 ^ m - 1) < o then leastM t o f (m + 1) else (m : Int)
def bndV (l : List Int) : Int := leastM (absI (l.getD (l.length - 1) 0)) (mostA l (l.length - 1)) 21 0
def bndF : LF
  | [], [l] => [bndV l]
  | _, _ => []
def bndWF : LF
  | [], [l] => if VP l then [bndV l, 0] else [0, 1]
  | _, _ => []
/-! ### Lists -/
abbrev LT := List Int → List (List Int) → List Int × List (List Int)
def slopeAt (l : List Int) (i : Nat) : Int := W (((i : Int) + 1) * l.getD (i + 1) 0)
def slopeL (l : List Int) : List Int := (List.range (l.length - 1)).map (slopeAt l)
def slF : LT
  | [], [l] => ([0], [slopeL l])
  | _, _ => ([], [])
def slWF (n : Int) : LT
  | [], [l] => if VP l then ([0, 0], [slopeL l]) else ([n, 1], [[]])
  | _, _ => ([], [])
/-- A number added at a place. -/
def addAt (r : List Int) (k : Nat) (x : Int) : List Int := r.set k (W (r.getD k 0 + W x))
/-- x times the first k numbers of q, added from place i on. -/
def addRow (r : List Int) (x : Int) (q : List Int) (i : Nat) : Nat → List Int
  | 0 => r
  | k + 1 => addAt (addRow r x q i k) (i + k) (x * q.getD k 0)
/-- The first i numbers of p, times q. -/
def prodN (p q : List Int) : Nat → List Int
  | 0 => List.replicate (p.length + q.length - 1) 0
  | i + 1 => addRow (prodN p q i) (p.getD i 0) q i q.length
def prodL (p q : List Int) : List Int := prodN p q p.length
def tiF (n : Int) : LT
  | [], [p, q] => if VP p ∧ VP q then (if VP (prodL p q) then ([0, 0], [prodL p q]) else ([n, 3], [[]])) else ([n, 1], [[]])
  | _, _ => ([], [])
def markL (k : Int) (l : List Int) : List Int := (List.range l.length).map fun i : Nat => k + (i : Int)
def markF : LT
  | [k], [l] => ([k + (l.length : Int)], [markL k l])
  | _, _ => ([], [])
def heldV (k : Int) (l : List Int) : Int := if ∀ j, j < l.length → l.getD j 0 = k + (j : Int) then k + (l.length : Int) else -1
def heldF : LF
  | [k], [l] => [heldV k l]
  | _, _ => []
def preMk : LQ
  | [k], [l] => (1 ≤ k ∧ k ≤ 1099511627777) ∧ (l.length : Int) ≤ 1099511627776
  | _, _ => False
def preVP : LQ
  | [], [l] => VP l
  | _, _ => False
def lookT (l : List (Nat × LT)) : Nat → Option LT := match l with
  | [] => fun _ => none
  | (h, f) :: r => fun g => bif Nat.beq h g then some f else lookT r g
def tblN : List (Nat × (List Int → List Int)) := [(23, idF), (62, in3F), (50, serF), (22, serF), (24, serF), (6, lawN), (44, wiF), (64, absF), (63, max2F)]
def tblL : List (Nat × LF) := [(16, eqF), (43, vpF), (13, vpF), (15, vpF), (3, lawF), (45, bndF), (17, bndWF), (18, bndWF), (4, lawF), (28, heldF), (7, lawF), (8, lawF)]
def tblT : List (Nat × LT) := [(51, slF), (25, slWF 0), (26, slWF 1), (29, tiF 0), (30, tiF 1), (27, markF)]
def sigsZ : List (Nat × Sig) := [(23, s23), (62, s62), (50, s50), (22, s22), (24, s24), (6, s6), (44, s44), (64, s64), (63, s63),
  (16, s16), (43, s43), (13, s13), (15, s15), (3, s3), (45, s45), (17, s17), (18, s18), (4, s4), (28, s28),
  (7, s7), (8, s8)]
def tbZ : Tab := ⟨sigOf sigsZ, lookU tblN (fun _ _ => []), lookL tblL, lookT tblT⟩
abbrev prZ : Nat → LQ := lookQ [(45, preVP), (51, preVP), (27, preMk), (28, preMk)]
abbrev CZ (g : Nat) (s : Sig) : Prop := CT Try.prog tbZ.fns (presQ prZ) g s

theorem outZ {g : Nat} {s : Sig} {F : List Int → List Int} {n : Nat} {xs ys : List Int} (h : tbZ.sig g = some s) (hl : tbZ.fl g = none) (hF : tbZ.fn g = F) (hn : (resKds s).length = n) (hy : ys = tbZ.out g n xs) (hr : allHas ((resKds s).map Kd.iv) (F xs)) : ys = F xs := outN h hl hF hn hy hr
theorem out1 {g : Nat} {s : Sig} {F : LF} {xs : List Int} {ls : List (List Int)} {y z : Int} (h : tbZ.sig g = some s) (hl : tbZ.fl g = some F) (hn : (resKds s).length = 1) (hy : [y] = tbZ.outL g 1 xs ls) (hz : F xs ls = [z]) (hr : allHas ((resKds s).map Kd.iv) [z]) : y = z := by
  have := outP h hl hn hy (by rw [hz]; exact hr)
  rw [hz] at this
  simpa using this
/-! ### Numbers -/
theorem zIn : CZ 62 s62 :=
  k62 tbZ noI noM prZ trivial trivial rfl trivial trivial (fun _ _ h _ => h) fun x a b _ _ _ => by
    simp only [p62, decide_eq_true_eq, decide_eq_false_iff_not]
    show (_ → [_] = [if a ≤ x ∧ x ≤ b then (1 : Int) else 0]) ∧ (_ → [0] = [if a ≤ x ∧ x ≤ b then (1 : Int) else 0])
    refine ⟨fun h => ?_, fun h => by rw [if_neg (fun e => h e.1)]⟩
    by_cases k : x ≤ b
    · rw [if_pos k, if_pos ⟨h, k⟩]
    · rw [if_neg k, if_neg (fun e => k e.2)]
theorem zWi : CZ 44 s44 :=
  k44 tbZ noI noM prZ trivial trivial rfl trivial trivial (fun _ _ h _ => h) fun x m _ _ _ => by
    simp only [p44, decide_eq_true_eq, decide_eq_false_iff_not]
    show (_ → [_] = [if W (0 - m) ≤ x ∧ x ≤ m then (1 : Int) else 0]) ∧ (_ → [0] = [if W (0 - m) ≤ x ∧ x ≤ m then (1 : Int) else 0])
    refine ⟨fun h => ?_, fun h => by rw [if_neg (fun e => h e.1)]⟩
    by_cases k : x ≤ m
    · rw [if_pos k, if_pos ⟨h, k⟩]
    · rw [if_neg k, if_neg (fun e => k e.2)]
theorem zAbs : CZ 64 s64 :=
  k64 tbZ noI noM prZ trivial trivial rfl trivial trivial (fun _ _ h _ => h) fun x _ _ _ => by
    simp only [p64, decide_eq_true_eq, decide_eq_false_iff_not]
    show (_ → ∀ v1 : Int, _ → [v1] = [if x < 0 then W (0 - x) else x]) ∧ (_ → [x] = [if x < 0 then W (0 - x) else x])
    exact ⟨fun h v hv => by rw [if_pos h, hv], fun h => by rw [if_neg h]⟩
theorem zMax : CZ 63 s63 :=
  k63 tbZ noI noM prZ trivial trivial rfl trivial trivial (fun _ _ h _ => h) fun x y _ _ _ => by
    simp only [p63, decide_eq_true_eq, decide_eq_false_iff_not]
    show (_ → [x] = [if y < x then x else y]) ∧ (_ → [y] = [if y < x then x else y])
    exact ⟨fun h => by rw [if_pos h], fun h => by rw [if_neg h]⟩
theorem inT {x a b v : Int} (hv : [v] = tbZ.out 62 1 [x, a, b]) : v = if a ≤ x ∧ x ≤ b then 1 else 0 := by
  have hv := outZ (g := 62) (F := in3F) rfl rfl rfl rfl hv (bool_has _)
  simpa only [in3F, List.cons.injEq, and_true] using hv
theorem inFT {x a b : Int} : (tbZ.fns 62 [x, a, b] []).1 = [if a ≤ x ∧ x ≤ b then 1 else 0] := fnsN (F := in3F) (s := s62) rfl rfl rfl (bool_has _)
theorem wiT {x m v : Int} (hv : [v] = tbZ.out 44 1 [x, m]) : v = if W (0 - m) ≤ x ∧ x ≤ m then 1 else 0 := by
  have hv := outZ (g := 44) (F := wiF) rfl rfl rfl rfl hv (bool_has _)
  simpa only [wiF, List.cons.injEq, and_true] using hv
theorem absT {x v : Int} (h : In6 x) (hv : [v] = tbZ.out 64 1 [x]) : v = absI x := by
  have e : (if x < 0 then W (0 - x) else x) = absI x := by
    unfold absI
    split
    · rw [show W (0 - x) = 0 - x from W_id ⟨by omega, by omega⟩]; omega
    · rfl
  have hv := outZ (g := 64) (F := absF) rfl rfl rfl rfl hv (by
    show allHas _ [if x < 0 then W (0 - x) else x]
    rw [e]
    exact hasI (by unfold absI; split <;> constructor <;> omega))
  simp only [absF, List.cons.injEq, and_true, e] at hv
  exact hv
theorem maxT {x y v : Int} (hx : I64 x) (hy : I64 y) (hv : [v] = tbZ.out 63 1 [x, y]) : v = if y < x then x else y := by
  have hv := outZ (g := 63) (F := max2F) rfl rfl rfl rfl hv (hasI (by split <;> assumption))
  simpa only [max2F, List.cons.injEq, and_true] using hv
/-! ### Series -/
theorem zToSer : CZ 23 s23 :=
  k23 tbZ noI noM prZ trivial trivial rfl trivial trivial (fun _ _ h _ => h) fun a b c d e _ _ _ => by
    unfold p23; rfl
theorem zSer : CZ 50 s50 :=
  k50 tbZ noI noM prZ (by exact ⟨rfl, trivial⟩) (by exact ⟨fun _ _ _ => trivial, trivial⟩) rfl (by exact ⟨zIn, trivial⟩) trivial (fun _ _ h _ => h) fun n d f s t hx _ _ => by
    have hd : I64 d := hx.2.1
    simp only [p50, inFT, List.getD_cons_zero, decide_eq_true_eq, decide_eq_false_iff_not]
    have post : ∀ x : Int, (x = if VSer n d f s then 1 else 0) → [x] = tbZ.app 50 [n, d, f, s, t] [] := fun x h => by rw [h]; rfl
    have i1 : ∀ (c : Prop) [Decidable c], (if c then (1 : Int) else 0) = 1 ↔ c := fun c _ => by split <;> simp_all
    simp only [i1]
    refine ⟨fun h1 => ⟨fun h2 => ⟨fun h3 _ _ _ _ _ _ v hv => post _ ?_, fun h3 _ _ _ _ _ _ => post _ ?_⟩, fun h2 _ _ _ _ => post _ ?_⟩, fun h1 _ _ => post _ ?_⟩
    · rw [inT hv]
      have e : Int.tdiv d 2 = d / 2 := Int.tdiv_eq_ediv_of_nonneg (by omega)
      rw [e, W_id ⟨by omega, by omega⟩] at h2
      by_cases h4 : 0 ≤ s ∧ s ≤ 1000
      · rw [if_pos h4, if_pos ⟨h1, h2, h3, h4⟩]
      · rw [if_neg h4, if_neg fun e => h4 e.2.2.2]
    · rw [if_neg fun e => h3 e.2.2.1]
    · have e : Int.tdiv d 2 = d / 2 := Int.tdiv_eq_ediv_of_nonneg (by omega)
      rw [e, W_id ⟨by omega, by omega⟩] at h2
      rw [if_neg fun e => h2 e.2.1]
    · rw [if_neg fun e => h1 e.1]
theorem serT {n d f s t v : Int} (hv : [v] = tbZ.out 50 1 [n, d, f, s, t]) : v = if VSer n d f s then 1 else 0 := by
  have hv := outZ (g := 50) (F := serF) rfl rfl rfl rfl hv (bool_has _)
  simpa only [serF, List.cons.injEq, and_true] using hv
theorem zVSer : CZ 22 s22 :=
  k22 tbZ noI noM prZ (by exact ⟨rfl, trivial⟩) (by exact ⟨fun _ _ _ => trivial, trivial⟩) rfl (by exact ⟨zSer, trivial⟩) trivial (fun _ _ h _ => h) fun n d f s t hx _ _ => by
    simp only [p22]
    intro v hv
    rw [serT hv]; rfl
theorem zVSer' : CZ 24 s24 :=
  k24 tbZ noI noM prZ trivial trivial rfl trivial trivial (fun _ _ h _ => h) fun n d f s t hx _ _ => by
    simp only [p24, decide_eq_true_eq, decide_eq_false_iff_not]
    have post : ∀ x : Int, (x = if VSer n d f s then 1 else 0) → [x] = tbZ.app 24 [n, d, f, s, t] [] := fun x h => by rw [h]; rfl
    have no : ¬ VSer n d f s → [0] = tbZ.app 24 [n, d, f, s, t] [] := fun h => post _ (by rw [if_neg h])
    refine ⟨fun h1 => ⟨fun h2 => ⟨fun h3 => ⟨fun h4 => ⟨fun h5 => ⟨fun h6 => ⟨fun h7 => post _ ?_, fun h7 => no fun e => h7 e.2.2.2.1⟩, fun h6 => no fun e => h6 e.2.2.1.2⟩, fun h5 => no fun e => h5 e.2.2.1.1⟩, fun h4 => no fun e => h4 e.2.1.2⟩, fun h3 => no fun e => h3 e.2.1.1⟩, fun h2 => no fun e => h2 e.1.2⟩, fun h1 => no fun e => h1 e.1.1⟩
    by_cases h8 : s ≤ 1000
    · rw [if_pos h8, if_pos ⟨⟨h1, h2⟩, ⟨h3, h4⟩, ⟨h5, h6⟩, h7, h8⟩]
    · rw [if_neg h8, if_neg fun e => h8 e.2.2.2.2]
theorem vserT {n d f s t v : Int} (hv : [v] = tbZ.out 22 1 [n, d, f, s, t]) : v = if VSer n d f s then 1 else 0 := by
  have hv := outZ (g := 22) (F := serF) rfl rfl rfl rfl hv (bool_has _)
  simpa only [serF, List.cons.injEq, and_true] using hv
theorem vserT' {n d f s t v : Int} (hv : [v] = tbZ.out 24 1 [n, d, f, s, t]) : v = if VSer n d f s then 1 else 0 := by
  have hv := outZ (g := 24) (F := serF) rfl rfl rfl rfl hv (bool_has _)
  simpa only [serF, List.cons.injEq, and_true] using hv
theorem fSeries : CZ 6 s6 :=
  k6 tbZ noI noM prZ (by exact ⟨rfl, rfl, rfl, trivial⟩) (by exact ⟨fun _ _ _ => trivial, fun _ _ _ => trivial, fun _ _ _ => trivial, trivial⟩) rfl (by exact ⟨zToSer, zVSer, zVSer', trivial⟩) trivial (fun _ _ h _ => h) fun n d f s t hx _ _ => by
    simp only [p6, decide_eq_true_eq, decide_eq_false_iff_not, Bool.not_eq_true', Bool.not_eq_false']
    have hid : ∀ a b c e g : Int, [a, b, c, e, g] = tbZ.out 23 5 [n, d, f, s, t] → a = n ∧ b = d ∧ c = f ∧ e = s ∧ g = t := fun a b c e g h => by
      have h := outZ (g := 23) (F := idF) rfl rfl rfl rfl h hx
      simpa only [idF, List.cons.injEq, and_true] using h
    intro a b c e g h0 u hu a' b' c' e' g' h1 v hv
    obtain ⟨rfl, rfl, rfl, rfl, rfl⟩ := hid _ _ _ _ _ h0
    obtain ⟨rfl, rfl, rfl, rfl, rfl⟩ := hid _ _ _ _ _ h1
    rw [vserT hu, vserT' hv]
    refine ⟨fun h => ?_, fun _ => rfl⟩
    simp at h
end Go.Proofs.Ytfpodondpanmaaa.Sx
