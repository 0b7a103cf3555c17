import Derived.Test.YtaknnjlkpepgaaaLG
import Derived.Test.YtaknnjlkpepgaaaLH
namespace Go.Proofs.Ytaknnjlkpepgaaa.Sx
open Go Go.RowKit
set_option linter.unusedVariables false
set_option linter.unusedSimpArgs false

def dAt (n : Int) (a b : List Int) : Int := if n < a.length then a.getD n.toNat 0 else b.getD (Int.tmod (n - a.length) b.length).toNat 0
def pAt (n : Int) (a b : List Int) : Int := if n < a.length then a.getD n.toNat 0 else b.getD (n - a.length).toNat 0
def dAtF : List Int → List (List Int) → List Int
  | [n], [a, b] => [dAt n a b]
  | _, _ => []
def pAtF : List Int → List (List Int) → List Int
  | [n], [a, b] => [pAt n a b]
  | _, _ => []
def dF : List Int → List (List Int) → List Int
  | [n], [a, b] => if VS a b then (if 0 ≤ n ∧ n ≤ 1000000000 then [dAt n a b, 0] else [0, 2]) else [0, 1]
  | _, _ => []
def preX (g : Nat) (xs : List Int) (ls : List (List Int)) : Prop := match g, xs, ls with
  | 82, [n], [a, b] => 0 ≤ n ∧ n < (a.length : Int) + b.length ∧ (a.length : Int) ≤ 100 ∧ (b.length : Int) ≤ 100
  | 81, [n], [a, b] => 0 ≤ n ∧ n ≤ 1000000000 ∧ (a.length : Int) ≤ 100 ∧ 1 ≤ (b.length : Int) ∧ (b.length : Int) ≤ 100
  | _, _, _ => True

theorem CT.moveP {P : Program} {T T' : Tab} {pre pre' : Nat → List Int → List (List Int) → Prop} {g : Nat} {s : Sig} (h : CT P T.fns (presQ pre) g s) (hs : T'.sig g = T.sig g) (hf : ∀ xs ls, T'.app g xs ls = T.app g xs ls) (hp : ∀ xs ls, pre g xs ls) : CT P T'.fns (presQ pre') g s := by
  intro w xs ls args hx hl ha hq
  have e : T'.fns g xs ls = T.fns g xs ls := by simp only [Tab.fns, hs, hf]
  rw [e]
  exact h w xs ls args hx hl ha (hp xs ls)

def sigsX : List (Nat × Sig) := [(82, s82), (81, s81), (43, s43), (42, s42), (12, s12), (38, s38), (76, s76), (59, s59), (39, s39), (35, s35)]
def tblX : Nat → Option (List Int → List (List Int) → List Int)
  | 82 => some pAtF | 81 => some dAtF | 43 => some dF | 42 => some dF | 12 => some lawF | 38 => some vsF | 76 => some vsF | 39 => some eqSF | 35 => some szSF
  | 59 => some fun xs _ => inF xs
  | _ => none
def tabX : Tab := ⟨sigOf sigsX, fun _ _ => [], tblX⟩
theorem outX {g : Nat} {s : Sig} {f : List Int → List (List Int) → List Int} (h : tabX.sig g = some s) (hl : tabX.fl g = some f) {n : Nat} (hn : (resKds s).length = n) {xs : List Int} {ls : List (List Int)} {y z : List Int} (hy : y = tabX.outL g n xs ls) (hz : f xs ls = z)
    (hr : allHas ((resKds s).map Kd.iv) z) : y = z := by
  rw [tabX.outL_eq h hn hl (by rw [hz]; exact hr), hz] at hy
  exact hy
theorem outX1 {g : Nat} {s : Sig} {f : List Int → List (List Int) → List Int} (h : tabX.sig g = some s) (hl : tabX.fl g = some f) (hn : (resKds s).length = 1) {xs : List Int} {ls : List (List Int)} {y z : Int} (hy : [y] = tabX.outL g 1 xs ls) (hz : f xs ls = [z])
    (hr : allHas ((resKds s).map Kd.iv) [z]) : y = z := by
  have := outX h hl hn hy hz hr
  simpa using this

theorem cx38 : CT Try.prog tabX.fns (presQ preX) 38 s38 := ct38.moveP rfl (fun _ _ => rfl) fun _ _ => trivial
theorem cx76 : CT Try.prog tabX.fns (presQ preX) 76 s76 := ct76.moveP rfl (fun _ _ => rfl) fun _ _ => trivial
theorem cx59 : CT Try.prog tabX.fns (presQ preX) 59 s59 := ct59.moveP rfl (fun _ _ => rfl) fun _ _ => trivial
theorem cx39 : CT Try.prog tabX.fns (presQ preX) 39 s39 := ct39.moveP rfl (fun _ _ => rfl) fun _ _ => trivial
theorem cx35 : CT Try.prog tabX.fns (presQ preX) 35 s35 := ct35.moveP rfl (fun _ _ => rfl) fun _ _ => trivial

theorem getD_i8 {l : List Int} (h : ∀ x ∈ l, (kindsIv [.i8]).has x) (n : Nat) : (kiv .i8).has (l.getD n 0) := by
  rw [List.getD_eq_getElem?_getD]
  cases e : l[n]? with
  | none => exact ⟨by decide, by decide⟩
  | some x =>
    have := h x (List.mem_of_getElem? e)
    exact ⟨this.1, this.2⟩
theorem dAt_i8 {a b : List Int} (ha : ∀ x ∈ a, (kindsIv [.i8]).has x) (hb : ∀ x ∈ b, (kindsIv [.i8]).has x) (n : Int) : (kiv .i8).has (dAt n a b) := by
  unfold dAt; split
  · exact getD_i8 ha _
  · exact getD_i8 hb _
theorem pAt_i8 {a b : List Int} (ha : ∀ x ∈ a, (kindsIv [.i8]).has x) (hb : ∀ x ∈ b, (kindsIv [.i8]).has x) (n : Int) : (kiv .i8).has (pAt n a b) := by
  unfold pAt; split
  · exact getD_i8 ha _
  · exact getD_i8 hb _

theorem cx82 : CT Try.prog tabX.fns (presQ preX) 82 s82 := by
  refine k82 tabX (fun _ _ _ => False) (fun _ _ _ => 0) preX trivial trivial rfl trivial trivial (fun _ _ h _ => h) fun n a b hx hl hp => ?_
  obtain ⟨h1, h2, h3, h4⟩ : 0 ≤ n ∧ n < (a.length : Int) + b.length ∧ (a.length : Int) ≤ 100 ∧ (b.length : Int) ≤ 100 := hp
  simp only [p82, decide_eq_true_eq, decide_eq_false_iff_not, Int.zero_add]
  rw [show IntKind.wrap .i64 (n - (a.length : Int)) = n - a.length from Wi_id ⟨by omega, by omega⟩]
  refine ⟨fun h => ⟨⟨h1, h⟩, fun _ => ⟨h, fun _ y hy => ?_⟩⟩, fun h => ⟨⟨by omega, by omega⟩, fun _ => ⟨by omega, fun _ y hy => ?_⟩⟩⟩
  · show [y] = [pAt n a b]
    unfold pAt
    rw [if_pos h, hy]
  · show [y] = [pAt n a b]
    unfold pAt
    rw [if_neg h, hy]

theorem cx81 : CT Try.prog tabX.fns (presQ preX) 81 s81 := by
  refine k81 tabX (fun _ _ _ => False) (fun _ _ _ => 0) preX trivial trivial rfl trivial trivial (fun _ _ h _ => h) fun n a b hx hl hp => ?_
  obtain ⟨h1, h2, h3, h4, h5⟩ : 0 ≤ n ∧ n ≤ 1000000000 ∧ (a.length : Int) ≤ 100 ∧ 1 ≤ (b.length : Int) ∧ (b.length : Int) ≤ 100 := hp
  simp only [p81, decide_eq_true_eq, decide_eq_false_iff_not, Int.zero_add, Bool.not_eq_true']
  intro m hm
  subst hm
  rw [show IntKind.wrap .i64 (n - (a.length : Int)) = n - a.length from Wi_id ⟨by omega, by omega⟩]
  refine ⟨fun h => ⟨⟨h1, h⟩, fun _ => ⟨h, fun _ y hy => ?_⟩⟩, fun h => ?_⟩
  · show [y] = [dAt n a b]
    unfold dAt
    rw [if_pos h, hy]
  · have t1 : 0 ≤ Int.tmod (n - a.length) b.length := Int.tmod_nonneg _ (by omega)
    have t2 : Int.tmod (n - a.length) b.length < b.length := Int.tmod_lt_of_pos _ (by omega)
    refine ⟨⟨by omega, t1, t2, t2⟩, fun _ x hx y hy => ?_⟩
    show [y] = [dAt n a b]
    unfold dAt
    rw [if_neg h, hy]

theorem two_has {x y : Int} (hx : (kiv .i8).has x) (hy : I64 y) : allHas [⟨-128, 127⟩, ⟨-9223372036854775808, 9223372036854775807⟩] [x, y] := ⟨hx, hy, trivial⟩

theorem cx43 : CT Try.prog tabX.fns (presQ preX) 43 s43 := by
  refine k43 tabX (fun _ _ _ => False) (fun _ _ _ => 0) preX (by exact ⟨rfl, rfl, trivial⟩) (by exact ⟨fun _ _ _ => trivial, (fun h => by cases h), trivial⟩) rfl (by exact ⟨cx38, cx82, trivial⟩) trivial (fun _ _ h _ => h) fun n a b hx hl hp => ?_
  have ha := hl.1.1
  have hb := hl.2.1.1
  simp only [p43, decide_eq_true_eq, decide_eq_false_iff_not, Bool.not_eq_true', Bool.not_eq_false']
  intro v hv
  have hv := one01 (outX1 (s := s38) rfl rfl rfl hv (z := if VS a b then 1 else 0) rfl (has01 _))
  rw [hv]
  have app : ∀ r, dF [n] [a, b] = r → tabX.app 43 [n] [a, b] = r := fun r h => h
  refine ⟨fun h => (app _ (by simp only [dF]; rw [if_neg h])).symm, fun h => ⟨fun h0 => ⟨fun h9 => (app _ (by simp only [dF]; rw [if_pos h, if_neg (by omega)])).symm, fun h9 m hm => ?_⟩, fun h0 => (app _ (by simp only [dF]; rw [if_pos h, if_neg (by omega)])).symm⟩⟩
  subst hm
  have h' := h
  obtain ⟨g1, ⟨g2, g3⟩, _, _⟩ := h'
  have t1 : (a.length : Int) ≤ n → 0 ≤ Int.tmod (n - a.length) b.length := fun hle => Int.tmod_nonneg _ (by omega)
  have t2 : Int.tmod (n - a.length) b.length < b.length := Int.tmod_lt_of_pos _ (by omega)
  have fin : ∀ y, y = dAt n a b → [y, 0] = tabX.app 43 [n] [a, b] := fun y hy => (app _ (by simp only [dF]; rw [if_pos h, if_pos ⟨h0, by omega⟩, hy])).symm
  refine ⟨fun hle => ⟨by omega, fun _ m hm => ?_⟩, fun hlt => ?_⟩
  · rw [show IntKind.wrap .i64 ((a.length : Int) + Int.tmod (n - a.length) b.length) = a.length + Int.tmod (n - a.length) b.length from Wi_id ⟨by have := t1 hle; omega, by omega⟩] at hm
    subst hm
    have := t1 hle
    refine ⟨⟨by omega, by omega, by omega, by omega⟩, fun _ y hy => fin y ?_⟩
    have hy := outX1 (s := s82) rfl rfl rfl hy (z := pAt _ a b) rfl ⟨pAt_i8 ha hb _, trivial⟩
    rw [hy]
    unfold pAt dAt
    rw [if_neg (by omega), if_neg (by omega)]
    congr 2
    omega
  · refine ⟨⟨h0, by omega, by omega, by omega⟩, fun _ y hy => fin y ?_⟩
    have hy := outX1 (s := s82) rfl rfl rfl hy (z := pAt _ a b) rfl ⟨pAt_i8 ha hb _, trivial⟩
    rw [hy]
    unfold pAt dAt
    rw [if_pos (by omega), if_pos (by omega)]

theorem cx42 : CT Try.prog tabX.fns (presQ preX) 42 s42 := by
  refine k42 tabX (fun _ _ _ => False) (fun _ _ _ => 0) preX (by exact ⟨rfl, rfl, rfl, trivial⟩) (by exact ⟨fun _ _ _ => trivial, fun _ _ _ => trivial, (fun h => by cases h), trivial⟩) rfl (by exact ⟨cx76, cx59, cx81, trivial⟩) trivial (fun _ _ h _ => h) fun n a b hx hl hp => ?_
  have ha := hl.1.1
  have hb := hl.2.1.1
  simp only [p42, decide_eq_true_eq, decide_eq_false_iff_not, Bool.not_eq_true', Bool.not_eq_false']
  intro v hv
  have hv := one01 (outX1 (s := s76) rfl rfl rfl hv (z := if VS a b then 1 else 0) rfl (has01 _))
  rw [hv]
  have app : ∀ r, dF [n] [a, b] = r → tabX.app 42 [n] [a, b] = r := fun r h => h
  refine ⟨fun h => (app _ (by simp only [dF]; rw [if_neg h])).symm, fun h u hu => ?_⟩
  have hu := one01 (outX1 (s := s59) (f := fun xs _ => inF xs) (xs := [n, 0, 1000000000]) (ls := []) rfl rfl rfl hu (z := if 0 ≤ n ∧ n ≤ 1000000000 then 1 else 0) rfl (has01 _))
  rw [hu]
  refine ⟨fun h2 => (app _ (by simp only [dF]; rw [if_pos h, if_neg h2])).symm, fun h2 => ?_⟩
  have h' := h
  obtain ⟨g1, ⟨g2, g3⟩, _, _⟩ := h'
  refine ⟨⟨h2.1, h2.2, by omega, by omega, by omega⟩, fun _ y hy => ?_⟩
  have hy := outX1 (s := s81) rfl rfl rfl hy (z := dAt n a b) rfl ⟨dAt_i8 ha hb _, trivial⟩
  exact (app _ (by simp only [dF]; rw [if_pos h, if_pos h2, hy])).symm

theorem dF_has {a b : List Int} (ha : ∀ x ∈ a, (kindsIv [.i8]).has x) (hb : ∀ x ∈ b, (kindsIv [.i8]).has x) (n : Int) : ∃ x y, dF [n] [a, b] = [x, y] ∧ (kiv .i8).has x ∧ I64 y := by
  simp only [dF]
  split
  · split
    · exact ⟨_, _, rfl, dAt_i8 ha hb n, by decide, by decide⟩
    · exact ⟨_, _, rfl, ⟨by decide, by decide⟩, by decide, by decide⟩
  · exact ⟨_, _, rfl, ⟨by decide, by decide⟩, by decide, by decide⟩

theorem cx12 : CT Try.prog tabX.fns (presQ preX) 12 s12 := by
  refine k12 tabX (fun _ _ _ => False) (fun _ _ _ => 0) preX (by exact ⟨rfl, rfl, rfl, rfl, trivial⟩) (by exact ⟨fun _ _ _ => trivial, fun _ _ _ => trivial, fun _ _ _ => trivial, fun _ _ _ => trivial, trivial⟩) rfl
    (by exact ⟨cx35, cx42, cx43, cx39, trivial⟩) (by exact ⟨toStream_cp, trivial⟩) (fun _ _ h _ => h) fun n a b hx hl _ => ?_
  have ha : (a.length : Int) ≤ 9223372036854775807 := hl.1.2
  have hb : (b.length : Int) ≤ 9223372036854775807 := hl.2.1.2
  obtain ⟨x, z, hd, hx1, hz1⟩ := dF_has hl.1.1 hl.2.1.1 n
  simp only [p12, decide_eq_true_eq, decide_eq_false_iff_not, Bool.not_eq_true', Bool.not_eq_false']
  intro y hy
  have hy := outX1 (s := s35) rfl rfl rfl hy (z := szV 1048576 a b) rfl (hasI (szV_has _ _ _))
  refine ⟨fun _ => rfl, fun hn => ?_⟩
  rw [hy] at hn
  obtain ⟨q1, q2, q3, q4⟩ := szV_le ⟨by decide, by decide⟩ ha hb hn
  have gab : (a.length : Int) ≤ 1099511627776 ∧ (b.length : Int) ≤ 1099511627776 := ⟨by omega, by omega⟩
  refine ⟨gab, fun _ u1 u2 hu => ⟨gab, fun _ w1 w2 hw => ?_⟩⟩
  have hu := outX (s := s42) rfl rfl rfl hu (z := [x, z]) hd (two_has hx1 hz1)
  have hw := outX (s := s43) rfl rfl rfl hw (z := [x, z]) hd (two_has hx1 hz1)
  simp only [List.cons.injEq, and_true] at hu hw
  obtain ⟨rfl, rfl⟩ := hu
  obtain ⟨rfl, rfl⟩ := hw
  refine ⟨fun _ => ⟨fun h => absurd rfl h, fun _ => ⟨gab, fun _ t ht => ?_⟩⟩, fun h => absurd rfl h⟩
  have ht := outX1 (s := s39) rfl rfl rfl ht (z := if a = a ∧ b = b then 1 else 0) rfl (has01 _)
  rw [if_pos ⟨rfl, rfl⟩] at ht
  exact ⟨fun h => absurd ht h, fun _ => rfl⟩
end Go.Proofs.Ytaknnjlkpepgaaa.Sx
