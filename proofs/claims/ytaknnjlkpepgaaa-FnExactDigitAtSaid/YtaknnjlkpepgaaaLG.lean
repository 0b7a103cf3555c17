import Derived.Test.YtaknnjlkpepgaaaLE
import Derived.Test.YtaknnjlkpepgaaaLF
namespace Go.Proofs.Ytaknnjlkpepgaaa.Sx
open Go Go.RowKit
set_option linter.unusedVariables false
set_option linter.unusedSimpArgs false

theorem CT.moveL {P : Program} {T T' : Tab} {pre : Nat → List Int → List (List Int) → Prop} {g : Nat} {s : Sig} (h : CT P T.fns (presQ pre) g s) (hs : T'.sig g = T.sig g) (hf : ∀ xs ls, T'.app g xs ls = T.app g xs ls) : CT P T'.fns (presQ pre) g s := by
  intro w xs ls args hx hl ha hq
  have e : T'.fns g xs ls = T.fns g xs ls := by simp only [Tab.fns, hs, hf]
  rw [e]
  exact h w xs ls args hx hl ha hq

def sigsW : List (Nat × Sig) := [(94, s94), (79, s79), (40, s40), (80, s80), (41, s41), (11, s11), (46, s46), (39, s39), (35, s35)]
def tblW : Nat → Option (List Int → List (List Int) → List Int)
  | 94 => some eqF | 79 => some eqSF | 40 => some eqSF | 80 => some eqF | 41 => some eqSF | 11 => some lawF | 46 => some eqF | 39 => some eqSF | 35 => some szSF
  | _ => none
def tabW : Tab := ⟨sigOf sigsW, fun _ _ => [], tblW⟩
theorem outW {g : Nat} {s : Sig} {f : List Int → List (List Int) → List Int} (h : tabW.sig g = some s) (hl : tabW.fl g = some f) (hn : (resKds s).length = 1) {xs : List Int} {ls : List (List Int)} {y z : Int} (hy : [y] = tabW.outL g 1 xs ls) (hz : f xs ls = [z])
    (hr : allHas ((resKds s).map Kd.iv) [z]) : y = z := by
  rw [tabW.outL_eq h hn hl (by rw [hz]; exact hr), hz] at hy
  simpa using hy
theorem appW {g : Nat} {s : Sig} {f : List Int → List (List Int) → List Int} (h : tabW.sig g = some s) (hl : tabW.fl g = some f) {xs : List Int} {ls : List (List Int)} {z : Int} (hz : f xs ls = [z])
    (hr : allHas ((resKds s).map Kd.iv) [z]) : (tabW.fns g xs ls).1.getD 0 0 = z := by
  rw [tabW.fns_app h, tabW.app_l hl, hz, clamp_id hr]; rfl

theorem cw46 : CT Try.prog tabW.fns (presQ pre0) 46 s46 := ct46.moveL rfl fun _ _ => rfl
theorem cw39 : CT Try.prog tabW.fns (presQ pre0) 39 s39 := ct39.moveL rfl fun _ _ => rfl
theorem cw35 : CT Try.prog tabW.fns (presQ pre0) 35 s35 := ct35.moveL rfl fun _ _ => rfl

theorem cw94 : CT Try.prog tabW.fns (presQ pre0) 94 s94 := by
  refine k94 tabW invEq muEq pre0 trivial trivial rfl trivial trivial (fun _ _ h _ => h) fun a b hx hl _ => ?_
  have hlen : (a.length : Int) ≤ 9223372036854775807 := hl.1.2
  simp only [p94, decide_eq_true_eq, decide_eq_false_iff_not, Bool.not_eq_true', Bool.not_eq_false', Int.zero_add]
  show (_ → [0] = [if a = b then (1 : Int) else 0]) ∧ _
  refine ⟨fun h => ?_, fun h => ⟨⟨hasI ⟨by decide, by decide⟩, Int.le_refl _, by omega, by omega, fun j hj => by omega⟩, fun i hi hI => ?_⟩⟩
  · rw [if_neg (fun e => h (by rw [e]))]
  · obtain ⟨h1, h2, h3, h4⟩ : 0 ≤ i ∧ i ≤ (a.length : Int) ∧ a.length = b.length ∧ ∀ j : Nat, (j : Int) < i → a[j]? = b[j]? := hI
    obtain ⟨n, rfl⟩ := Int.eq_ofNat_of_zero_le h1
    refine ⟨fun hlt => ⟨⟨h1, hlt, hlt, h1, by omega, by omega⟩, fun _ x hx y hy => ?_⟩, fun hge => ?_⟩
    · have ha : a[n]? = some (a.getD n 0) := by rw [List.getD_eq_getElem?_getD, List.getElem?_eq_getElem (by omega)]; rfl
      have hb : b[n]? = some (b.getD n 0) := by rw [List.getD_eq_getElem?_getD, List.getElem?_eq_getElem (by omega)]; rfl
      rw [Int.toNat_natCast]
      refine ⟨fun hne => ?_, fun heq z hz => ?_⟩
      · show [0] = [if a = b then (1 : Int) else 0]
        rw [if_neg (fun e => hne (by rw [e]))]
      · rw [show IntKind.wrap .i64 ((n : Int) + 1) = (n : Int) + 1 from Wi_id ⟨by omega, by omega⟩] at hz
        subst hz
        refine ⟨hasI ⟨by omega, by omega⟩, ⟨by omega, by omega, h3, fun j hj => ?_⟩, ?_⟩
        · by_cases e : j = n
          · subst e; rw [ha, hb, heq]
          · exact h4 j (by omega)
        · show ((a.length : Int) - (n + 1)).toNat < ((a.length : Int) - n).toNat
          omega
    · show [1] = [if a = b then (1 : Int) else 0]
      rw [if_pos]
      refine List.ext_getElem? fun j => ?_
      by_cases hj : (j : Int) < n
      · exact h4 j hj
      · rw [List.getElem?_eq_none (by omega), List.getElem?_eq_none (by omega)]

theorem cw80 : CT Try.prog tabW.fns (presQ pre0) 80 s80 := by
  refine k80 tabW invEq muEq pre0 trivial trivial rfl trivial trivial (fun _ _ h _ => h) fun a b hx hl _ => ?_
  have hlen : (a.length : Int) ≤ 9223372036854775807 := hl.1.2
  simp only [p80, decide_eq_true_eq, decide_eq_false_iff_not, Bool.not_eq_true', Bool.not_eq_false', Int.zero_add]
  show (_ → [0] = [if a = b then (1 : Int) else 0]) ∧ _
  refine ⟨fun h => ?_, fun h => ⟨⟨hasI ⟨by decide, by decide⟩, Int.le_refl _, by omega, by omega, fun j hj => by omega⟩, fun i hi hI => ?_⟩⟩
  · rw [if_neg (fun e => h (by rw [e]))]
  · obtain ⟨h1, h2, h3, h4⟩ : 0 ≤ i ∧ i ≤ (a.length : Int) ∧ a.length = b.length ∧ ∀ j : Nat, (j : Int) < i → a[j]? = b[j]? := hI
    obtain ⟨n, rfl⟩ := Int.eq_ofNat_of_zero_le h1
    refine ⟨fun hlt => ⟨⟨h1, hlt, hlt, h1, by omega, by omega⟩, fun _ x hx y hy => ?_⟩, fun hge => ?_⟩
    · have ha : a[n]? = some (a.getD n 0) := by rw [List.getD_eq_getElem?_getD, List.getElem?_eq_getElem (by omega)]; rfl
      have hb : b[n]? = some (b.getD n 0) := by rw [List.getD_eq_getElem?_getD, List.getElem?_eq_getElem (by omega)]; rfl
      rw [Int.toNat_natCast]
      refine ⟨fun hne => ?_, fun heq => ?_⟩
      · show [0] = [if a = b then (1 : Int) else 0]
        rw [if_neg (fun e => hne (by rw [e]))]
      · rw [show IntKind.wrap .i64 ((n : Int) + 1) = (n : Int) + 1 from Wi_id ⟨by omega, by omega⟩]
        refine ⟨hasI ⟨by omega, by omega⟩, ⟨by omega, by omega, h3, fun j hj => ?_⟩, ?_⟩
        · by_cases e : j = n
          · subst e; rw [ha, hb, heq]
          · exact h4 j (by omega)
        · show ((a.length : Int) - (n + 1)).toNat < ((a.length : Int) - n).toNat
          omega
    · show [1] = [if a = b then (1 : Int) else 0]
      rw [if_pos]
      refine List.ext_getElem? fun j => ?_
      by_cases hj : (j : Int) < n
      · exact h4 j hj
      · rw [List.getElem?_eq_none (by omega), List.getElem?_eq_none (by omega)]

theorem eq01 (a b : List Int) : allHas [⟨0, 1⟩] [if a = b then (1 : Int) else 0] := has01 _
theorem cw79 : CT Try.prog tabW.fns (presQ pre0) 79 s79 := by
  refine k79 tabW (fun _ _ _ => False) (fun _ _ _ => 0) pre0 ⟨rfl, trivial⟩ ⟨fun _ _ _ => trivial, trivial⟩ rfl ⟨cw94, trivial⟩ trivial (fun _ _ h _ => h) fun a b c d hx hl _ => ?_
  simp only [p79, decide_eq_true_eq, decide_eq_false_iff_not]
  rw [appW (s := s94) rfl rfl (z := if a = c then 1 else 0) rfl (has01 _)]
  refine ⟨fun h y hy z hz => ?_, fun h y hy => ?_⟩
  · have h : a = c := by
      apply Decidable.byContradiction
      intro e; rw [if_neg e] at h; cases h
    have hz := outW (s := s94) rfl rfl rfl hz (z := if b = d then 1 else 0) rfl (has01 _)
    show [z] = [if a = c ∧ b = d then (1 : Int) else 0]
    rw [hz]
    simp [h]
  · have h : ¬ a = c := fun e => by rw [if_pos e] at h; exact h rfl
    show [0] = [if a = c ∧ b = d then (1 : Int) else 0]
    rw [if_neg (fun e => h e.1)]

theorem cw40 : CT Try.prog tabW.fns (presQ pre0) 40 s40 := by
  refine k40 tabW (fun _ _ _ => False) (fun _ _ _ => 0) pre0 ⟨rfl, trivial⟩ ⟨fun _ _ _ => trivial, trivial⟩ rfl ⟨cw79, trivial⟩ trivial (fun _ _ h _ => h) fun a b c d hx hl _ => ?_
  simp only [p40]
  intro y hy
  have hy := outW (s := s79) rfl rfl rfl hy (z := if a = c ∧ b = d then 1 else 0) rfl (has01 _)
  rw [hy]; rfl

theorem cw41 : CT Try.prog tabW.fns (presQ pre0) 41 s41 := by
  refine k41 tabW (fun _ _ _ => False) (fun _ _ _ => 0) pre0 ⟨rfl, trivial⟩ ⟨fun _ _ _ => trivial, trivial⟩ rfl ⟨cw80, trivial⟩ trivial (fun _ _ h _ => h) fun a b c d hx hl _ => ?_
  simp only [p41, decide_eq_true_eq, decide_eq_false_iff_not]
  intro y hy
  have hy := outW (s := s80) rfl rfl rfl hy (z := if a = c then 1 else 0) rfl (has01 _)
  rw [one01 hy]
  refine ⟨fun h z hz => ?_, fun h => ?_⟩
  · have hz := outW (s := s80) rfl rfl rfl hz (z := if b = d then 1 else 0) rfl (has01 _)
    show [z] = [if a = c ∧ b = d then (1 : Int) else 0]
    rw [hz]
    simp [h]
  · show [0] = [if a = c ∧ b = d then (1 : Int) else 0]
    rw [if_neg (fun e => h e.1)]

def szV (x : Int) (a b : List Int) : Int := if szI x a < 0 then -1 else if szI (szI x a) b < 0 then -1 else szI (szI x a) b
theorem szV_has (x : Int) (a b : List Int) : I64 (szV x a b) := by
  unfold szV
  split
  · exact ⟨by decide, by decide⟩
  · split
    · exact ⟨by decide, by decide⟩
    · exact szI_has _ _
theorem szV_le {x : Int} {a b : List Int} (hx : 0 ≤ x ∧ x ≤ 1048576) (ha : (a.length : Int) ≤ 9223372036854775807) (hb : (b.length : Int) ≤ 9223372036854775807) (h : ¬ szV x a b < 0) :
    (a.length : Int) ≤ 1048576 ∧ (b.length : Int) ≤ 1048576 ∧ 0 ≤ szV x a b ∧ szV x a b ≤ 1048576 := by
  unfold szV at h ⊢
  have h0 : ¬ szI x a < 0 := fun e => h (by rw [if_pos e]; decide)
  rw [if_neg h0] at h ⊢
  have h1 : ¬ szI (szI x a) b < 0 := fun e => h (by rw [if_pos e]; decide)
  rw [if_neg h1] at h ⊢
  obtain ⟨e0, e1⟩ := szI_le hx ha h0
  obtain ⟨e2, e3⟩ := szI_le (x := szI x a) ⟨by omega, by omega⟩ hb h1
  omega

theorem cw11 : CT Try.prog tabW.fns (presQ pre0) 11 s11 := by
  refine k11 tabW (fun _ _ _ => False) (fun _ _ _ => 0) pre0 (by exact ⟨rfl, rfl, rfl, rfl, trivial⟩) (by exact ⟨fun _ _ _ => trivial, fun _ _ _ => trivial, fun _ _ _ => trivial, fun _ _ _ => trivial, trivial⟩) rfl
    (by exact ⟨cw35, cw40, cw41, cw39, trivial⟩) (by exact ⟨toStream_cp, trivial⟩) (fun _ _ h _ => h) fun a b c d hx hl _ => ?_
  have ha : (a.length : Int) ≤ 9223372036854775807 := hl.1.2
  have hb : (b.length : Int) ≤ 9223372036854775807 := hl.2.1.2
  have hc : (c.length : Int) ≤ 9223372036854775807 := hl.2.2.1.2
  have hd : (d.length : Int) ≤ 9223372036854775807 := hl.2.2.2.1.2
  simp only [p11, decide_eq_true_eq, decide_eq_false_iff_not, Bool.not_eq_true', Bool.not_eq_false']
  intro y hy
  have hy := outW (s := s35) rfl rfl rfl hy (z := szV 1048576 a b) rfl (hasI (szV_has _ _ _))
  refine ⟨fun _ => rfl, fun hn => ?_⟩
  rw [hy] at hn
  obtain ⟨q1, q2, q3, q4⟩ := szV_le ⟨by decide, by decide⟩ ha hb hn
  intro z hz
  rw [hy] at hz
  have hz := outW (s := s35) rfl rfl rfl hz (z := szV (szV 1048576 a b) c d) rfl (hasI (szV_has _ _ _))
  refine ⟨fun _ => rfl, fun hn2 => ?_⟩
  rw [hz] at hn2
  obtain ⟨r1, r2, _, _⟩ := szV_le ⟨q3, q4⟩ hc hd hn2
  have g4 : (a.length : Int) ≤ 1099511627776 ∧ (b.length : Int) ≤ 1099511627776 ∧ (c.length : Int) ≤ 1099511627776 ∧ (d.length : Int) ≤ 1099511627776 := ⟨by omega, by omega, by omega, by omega⟩
  have gab : (a.length : Int) ≤ 1099511627776 ∧ (b.length : Int) ≤ 1099511627776 := ⟨by omega, by omega⟩
  have gcd : (c.length : Int) ≤ 1099511627776 ∧ (d.length : Int) ≤ 1099511627776 := ⟨by omega, by omega⟩
  refine ⟨g4, fun _ u hu => ⟨gab, fun _ => ⟨gcd, fun _ v hv => ?_⟩⟩⟩
  have hu := outW (s := s40) rfl rfl rfl hu (z := if a = c ∧ b = d then 1 else 0) rfl (has01 _)
  have hv := outW (s := s41) rfl rfl rfl hv (z := if a = c ∧ b = d then 1 else 0) rfl (has01 _)
  subst hu hv
  refine ⟨fun h => ?_, fun _ => ⟨gab, fun _ z1 hz1 => ?_⟩⟩
  · simp at h
  · have hz1 := outW (s := s39) rfl rfl rfl hz1 (z := if a = a ∧ b = b then 1 else 0) rfl (has01 _)
    rw [if_pos ⟨rfl, rfl⟩] at hz1
    refine ⟨fun h => absurd hz1 h, fun _ => ⟨gcd, fun _ z2 hz2 => ?_⟩⟩
    have hz2 := outW (s := s39) rfl rfl rfl hz2 (z := if c = c ∧ d = d then 1 else 0) rfl (has01 _)
    rw [if_pos ⟨rfl, rfl⟩] at hz2
    exact ⟨fun h => absurd hz2 h, fun _ => rfl⟩
end Go.Proofs.Ytaknnjlkpepgaaa.Sx
