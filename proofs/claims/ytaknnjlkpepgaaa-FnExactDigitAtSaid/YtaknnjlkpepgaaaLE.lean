import Derived.Test.YtaknnjlkpepgaaaLD
namespace Go.Proofs.Ytaknnjlkpepgaaa.Sx
open Go Go.RowKit
set_option linter.unusedVariables false
set_option linter.unusedSimpArgs false

theorem one01 {c : Prop} [Decidable c] {y : Int} (h : y = if c then 1 else 0) : y = 1 ↔ c := by
  rw [h]; split <;> simp_all

theorem ct39 : CT Try.prog tabV.fns (presQ pre0) 39 s39 := by
  refine k39 tabV (fun _ _ _ => False) (fun _ _ _ => 0) pre0 ⟨rfl, trivial⟩ ⟨fun _ _ _ => trivial, trivial⟩ rfl ⟨ct46, trivial⟩ trivial (fun _ _ h _ => h) fun a b c d hx hl _ => ?_
  simp only [p39, decide_eq_true_eq, decide_eq_false_iff_not, Bool.not_eq_true', Bool.not_eq_false']
  show ∀ v0 : Int, _ → (_ → [0] = [if a = c ∧ b = d then (1 : Int) else 0]) ∧ _
  intro y hy
  have hy := out1 (s := s46) rfl rfl rfl hy (z := if a = c then 1 else 0) rfl (has01 _)
  refine ⟨fun h => ?_, fun h z hz => ?_⟩
  · rw [one01 hy] at h
    rw [if_neg (fun e => h e.1)]
  · rw [one01 hy] at h
    have hz := out1 (s := s46) rfl rfl rfl hz (z := if b = d then 1 else 0) rfl (has01 _)
    rw [one01 hz]
    show (_ → [0] = [if a = c ∧ b = d then (1 : Int) else 0]) ∧ (_ → [1] = [if a = c ∧ b = d then (1 : Int) else 0])
    exact ⟨fun h' => by rw [if_neg (fun e => h' e.2)], fun h' => by rw [if_pos ⟨h, h'⟩]⟩

def invD (_ : Nat) (ρ σ : Env) : Prop := match ρ.l, σ.i with
  | [a], [i] => 0 ≤ i ∧ i ≤ (a.length : Int) ∧ ∀ j : Nat, (j : Int) < i → -1 ≤ a.getD j 0 ∧ a.getD j 0 ≤ 1
  | _, _ => False
theorem getD_mem {a : List Int} {n : Nat} (h : n < a.length) : a.getD n 0 ∈ a := by
  rw [List.getD_eq_getElem?_getD, List.getElem?_eq_getElem h]; exact List.getElem_mem h
theorem digs_of {a : List Int} {n : Nat} (h : a.length ≤ n) (h4 : ∀ j : Nat, (j : Int) < n → -1 ≤ a.getD j 0 ∧ a.getD j 0 ≤ 1) : Digs a := fun x hx => by
  obtain ⟨j, hj, rfl⟩ := List.getElem_of_mem hx
  have := h4 j (by omega)
  rwa [List.getD_eq_getElem?_getD, List.getElem?_eq_getElem hj] at this
theorem ct84 : CT Try.prog tabV.fns (presQ pre0) 84 s84 := by
  refine k84 tabV invD muEq pre0 trivial trivial rfl trivial trivial (fun _ _ h _ => h) fun a hx hl _ => ?_
  have hlen : (a.length : Int) ≤ 9223372036854775807 := hl.1.2
  simp only [p84, decide_eq_true_eq, decide_eq_false_iff_not, Bool.not_eq_true', Bool.not_eq_false', Int.zero_add]
  refine ⟨⟨hasI ⟨by decide, by decide⟩, Int.le_refl _, by omega, fun j hj => by omega⟩, fun i hi hI => ?_⟩
  obtain ⟨h1, h2, h4⟩ : 0 ≤ i ∧ i ≤ (a.length : Int) ∧ ∀ j : Nat, (j : Int) < i → -1 ≤ a.getD j 0 ∧ a.getD j 0 ≤ 1 := hI
  obtain ⟨n, rfl⟩ := Int.eq_ofNat_of_zero_le h1
  rw [Int.toNat_natCast]
  have no : ∀ (hlt : (n : Int) < a.length), ¬ (-1 ≤ a.getD n 0 ∧ a.getD n 0 ≤ 1) → [0] = tabV.app 84 [] [a] := fun hlt h => by
    show [0] = [if Digs a then (1 : Int) else 0]
    rw [if_neg fun e => h (e _ (getD_mem (by omega)))]
  refine ⟨fun hlt => ⟨⟨h1, hlt⟩, fun _ => ⟨hlt, fun _ x hx => ⟨fun hm => ⟨⟨h1, hlt⟩, fun _ => ⟨hlt, fun _ y hy => ⟨fun hg => ?_, fun hg z hz => ?_⟩⟩⟩, fun hm => ?_⟩⟩⟩, fun hge => ?_⟩
  · subst hx hy; exact no hlt (fun e => by omega)
  · subst hx hy
    rw [show IntKind.wrap .i64 ((n : Int) + 1) = (n : Int) + 1 from Wi_id ⟨by omega, by omega⟩] at hz
    subst hz
    refine ⟨hasI ⟨by omega, by omega⟩, ⟨by omega, by omega, fun j hj => ?_⟩, ?_⟩
    · by_cases e : j = n
      · subst e; exact ⟨hm, by omega⟩
      · exact h4 j (by omega)
    · show ((a.length : Int) - (n + 1)).toNat < ((a.length : Int) - n).toNat
      omega
  · subst hx; exact no hlt (fun e => hm e.1)
  · show [1] = [if Digs a then (1 : Int) else 0]
    rw [if_pos (digs_of (n := n) (by omega) h4)]

theorem ct59 : CT Try.prog tabV.fns (presQ pre0) 59 s59 := by
  refine k59 tabV (fun _ _ _ => False) (fun _ _ _ => 0) pre0 trivial trivial rfl trivial trivial (fun _ _ h _ => h) fun x a b hx hl _ => ?_
  simp only [p59, decide_eq_true_eq, decide_eq_false_iff_not]
  show (_ → [_] = [if a ≤ x ∧ x ≤ b then (1 : Int) else 0]) ∧ (_ → [0] = [if a ≤ x ∧ x ≤ b then (1 : Int) else 0])
  refine ⟨fun h => ?_, fun h => ?_⟩
  · by_cases h' : x ≤ b <;> simp [h, h']
  · rw [if_neg (fun e => h e.1)]
theorem ct78 : CT Try.prog tabV.fns (presQ pre0) 78 s78 := by
  refine k78 tabV (fun _ _ _ => False) (fun _ _ _ => 0) pre0 trivial trivial rfl trivial trivial (fun _ _ h _ => h) fun x hx hl _ => ?_
  simp only [p78, decide_eq_true_eq, decide_eq_false_iff_not]
  show (_ → [_] = [if -1 ≤ x ∧ x ≤ 1 then (0 : Int) else 1]) ∧ (_ → [1] = [if -1 ≤ x ∧ x ≤ 1 then (0 : Int) else 1])
  refine ⟨fun h => ?_, fun h => ?_⟩
  · by_cases h' : 1 < x
    · rw [if_pos h', if_neg (by omega)]
    · rw [if_neg h', if_pos (by omega)]
  · rw [if_neg (fun e => h e.1)]

theorem ct76 : CT Try.prog tabV.fns (presQ pre0) 76 s76 := by
  refine k76 tabV (fun _ _ _ => False) (fun _ _ _ => 0) pre0 (by exact ⟨rfl, rfl, trivial⟩) (by exact ⟨fun _ _ _ => trivial, fun _ _ _ => trivial, trivial⟩) rfl (by exact ⟨ct59, ct84, trivial⟩) trivial (fun _ _ h _ => h) fun a b hx hl _ => ?_
  simp only [p76, decide_eq_true_eq, decide_eq_false_iff_not]
  have no : ¬ VS a b → [0] = tabV.app 76 [] [a, b] := fun h => by
    show [0] = [if VS a b then (1 : Int) else 0]
    rw [if_neg h]
  refine ⟨fun h1 x hx => ?_, fun h1 => no fun e => h1 e.1⟩
  have hx := out0 (s := s59) (f := fun xs _ => inF xs) rfl rfl rfl hx (z := if 1 ≤ (b.length : Int) ∧ (b.length : Int) ≤ 14 then 1 else 0) rfl (has01 _)
  rw [one01 hx]
  refine ⟨fun h2 y hy => ?_, fun h2 => no fun e => h2 e.2.1⟩
  have hy := out1 (s := s84) rfl rfl rfl hy (z := if Digs a then 1 else 0) rfl (has01 _)
  rw [one01 hy]
  refine ⟨fun h3 z hz => ?_, fun h3 => no fun e => h3 e.2.2.1⟩
  have hz := out1 (s := s84) rfl rfl rfl hz (z := if Digs b then 1 else 0) rfl (has01 _)
  show [z] = [if VS a b then (1 : Int) else 0]
  rw [hz]
  by_cases h4 : Digs b
  · rw [if_pos h4, if_pos ⟨h1, h2, h3, h4⟩]
  · rw [if_neg h4, if_neg (fun e => h4 e.2.2.2)]

theorem ct36 : CT Try.prog tabV.fns (presQ pre0) 36 s36 := by
  refine k36 tabV (fun _ _ _ => False) (fun _ _ _ => 0) pre0 ⟨rfl, trivial⟩ ⟨fun _ _ _ => trivial, trivial⟩ rfl ⟨ct76, trivial⟩ trivial (fun _ _ h _ => h) fun a b hx hl _ => ?_
  simp only [p36]
  intro y hy
  have hy := out1 (s := s76) rfl rfl rfl hy (z := if VS a b then 1 else 0) rfl (has01 _)
  rw [hy]; rfl

theorem ct93 : CT Try.prog tabV.fns (presQ pre0) 93 s93 := by
  refine k93 tabV invD muEq pre0 ⟨rfl, trivial⟩ ⟨fun _ _ _ => trivial, trivial⟩ rfl ⟨ct78, trivial⟩ trivial (fun _ _ h _ => h) fun a hx hl _ => ?_
  have hlen : (a.length : Int) ≤ 9223372036854775807 := hl.1.2
  simp only [p93, decide_eq_true_eq, decide_eq_false_iff_not, Int.zero_add]
  refine ⟨⟨hasI ⟨by decide, by decide⟩, Int.le_refl _, by omega, fun j hj => by omega⟩, fun i hi hI => ?_⟩
  obtain ⟨h1, h2, h4⟩ : 0 ≤ i ∧ i ≤ (a.length : Int) ∧ ∀ j : Nat, (j : Int) < i → -1 ≤ a.getD j 0 ∧ a.getD j 0 ≤ 1 := hI
  obtain ⟨n, rfl⟩ := Int.eq_ofNat_of_zero_le h1
  rw [Int.toNat_natCast]
  have gd : ∀ j (hj : j < a.length), a.getD j 0 = a[j] := fun j hj => by rw [List.getD_eq_getElem?_getD, List.getElem?_eq_getElem hj]; rfl
  refine ⟨fun hlt => ⟨⟨h1, hlt⟩, fun _ => ⟨hlt, fun _ x hx y hy => ?_⟩⟩, fun hge => ?_⟩
  · have hy := out0 (s := s78) (f := fun xs _ => noF xs) rfl rfl rfl hy (z := if -1 ≤ x ∧ x ≤ 1 then 0 else 1) rfl (by
      refine ⟨?_, trivial⟩
      split <;> exact ⟨by decide, by decide⟩)
    refine ⟨fun h => ?_, fun h => ?_⟩
    · have hb : ¬ (-1 ≤ x ∧ x ≤ 1) := fun e => by rw [if_pos e] at hy; omega
      show [(n : Int)] = [idx a]
      have : a.findIdx? (fun x => !decide (-1 ≤ x ∧ x ≤ 1)) = some n := by
        rw [List.findIdx?_eq_some_iff_getElem]
        refine ⟨by omega, ?_, fun j hj => ?_⟩
        · rw [← gd n (by omega), ← hx]; simp; omega
        · have := h4 j (by omega)
          rw [gd j (by omega)] at this
          simpa using this
      unfold idx
      rw [this]
    · have hg : -1 ≤ x ∧ x ≤ 1 := by
        apply Decidable.byContradiction
        intro e
        rw [if_neg e] at hy; exact h hy
      rw [show IntKind.wrap .i64 ((n : Int) + 1) = (n : Int) + 1 from Wi_id ⟨by omega, by omega⟩]
      refine ⟨hasI ⟨by omega, by omega⟩, ⟨by omega, by omega, fun j hj => ?_⟩, ?_⟩
      · by_cases e : j = n
        · subst e; rw [← hx]; exact hg
        · exact h4 j (by omega)
      · show ((a.length : Int) - (n + 1)).toNat < ((a.length : Int) - n).toNat
        omega
  · show [-1] = [idx a]
    have hd := digs_of (a := a) (n := n) (by omega) h4
    have : a.findIdx? (fun x => !decide (-1 ≤ x ∧ x ≤ 1)) = none := by
      rw [List.findIdx?_eq_none_iff]
      intro x hx
      simpa using hd x hx
    unfold idx
    rw [this]

theorem idx_neg (a : List Int) : 0 ≤ idx a ↔ ¬ Digs a := by
  unfold idx
  cases h : a.findIdx? (fun x => !decide (-1 ≤ x ∧ x ≤ 1)) with
  | none =>
    rw [List.findIdx?_eq_none_iff] at h
    have : Digs a := fun x hx => by simpa using h x hx
    simp [this]
  | some i =>
    rw [List.findIdx?_eq_some_iff_getElem] at h
    obtain ⟨hi, h1, _⟩ := h
    have : ¬ Digs a := fun e => by
      have := e _ (List.getElem_mem hi)
      simp [this] at h1
    simp [this]
theorem idx_has (a : List Int) (h : (a.length : Int) ≤ 9223372036854775807) : I64 (idx a) := by
  unfold idx
  cases e : a.findIdx? (fun x => !decide (-1 ≤ x ∧ x ≤ 1)) with
  | none => exact ⟨by decide, by decide⟩
  | some i =>
    rw [List.findIdx?_eq_some_iff_getElem] at e
    obtain ⟨hi, _, _⟩ := e
    exact ⟨by simp only; omega, by simp only; omega⟩
theorem ct77 : CT Try.prog tabV.fns (presQ pre0) 77 s77 := by
  refine k77 tabV (fun _ _ _ => False) (fun _ _ _ => 0) pre0 ⟨rfl, trivial⟩ ⟨fun _ _ _ => trivial, trivial⟩ rfl ⟨ct93, trivial⟩ trivial (fun _ _ h _ => h) fun a hx hl _ => ?_
  simp only [p77, decide_eq_true_eq]
  intro y hy
  have hy := out1 (s := s93) rfl rfl rfl hy (z := idx a) rfl (hasI (idx_has a hl.1.2))
  subst hy
  show [_] = [if Digs a then (0 : Int) else 1]
  by_cases h : Digs a
  · rw [if_pos h, if_neg (by rw [idx_neg]; simpa using h)]
  · rw [if_neg h, if_pos (by rw [idx_neg]; exact h)]

theorem ct38 : CT Try.prog tabV.fns (presQ pre0) 38 s38 := by
  refine k38 tabV (fun _ _ _ => False) (fun _ _ _ => 0) pre0 ⟨rfl, trivial⟩ ⟨fun _ _ _ => trivial, trivial⟩ rfl ⟨ct77, trivial⟩ trivial (fun _ _ h _ => h) fun a b hx hl _ => ?_
  simp only [p38, decide_eq_true_eq, decide_eq_false_iff_not, Bool.not_eq_true', Bool.not_eq_false']
  have no : ¬ VS a b → [0] = tabV.app 38 [] [a, b] := fun h => by
    show [0] = [if VS a b then (1 : Int) else 0]
    rw [if_neg h]
  have con : ∀ l : List Int, allHas ((resKds s77).map Kd.iv) [if Digs l then (0 : Int) else 1] := fun l => by
    refine ⟨?_, trivial⟩
    split <;> exact ⟨by decide, by decide⟩
  have one : ∀ {l : List Int} {y : Int}, y = (if Digs l then 0 else 1) → (y = 1 ↔ ¬ Digs l) := fun {l y} h => by
    rw [h]; split <;> simp_all
  refine ⟨fun h1 => ⟨fun h2 => ⟨fun h3 => no fun e => by omega, fun h3 y hy => ?_⟩, fun h2 => no fun e => h2 e.2.1.1⟩, fun h1 => no fun e => h1 e.1⟩
  have hy := one (out1 (s := s77) rfl rfl rfl hy (z := if Digs a then 0 else 1) rfl (con a))
  rw [hy]
  refine ⟨fun h4 z hz => ?_, fun h4 => no fun e => h4 e.2.2.1⟩
  have hz := one (out1 (s := s77) rfl rfl rfl hz (z := if Digs b then 0 else 1) rfl (con b))
  have h4 : Digs a := Decidable.byContradiction h4
  show [_] = [if VS a b then (1 : Int) else 0]
  by_cases h5 : Digs b
  · rw [if_pos (show ¬ z = 1 by rw [hz]; simpa using h5), if_pos ⟨h1, ⟨h2, by omega⟩, h4, h5⟩]
  · rw [if_neg (show ¬ ¬ z = 1 by rw [hz]; simpa using h5), if_neg (fun e => h5 e.2.2.2)]

theorem szI_le {x : Int} {l : List Int} (hx : 0 ≤ x ∧ x ≤ 1048576) (hl : (l.length : Int) ≤ 9223372036854775807) (h : ¬ szI x l < 0) : szI x l = x - l.length ∧ 0 ≤ x - l.length := by
  unfold szI at h ⊢
  have : Wi (x - l.length) = x - l.length := Wi_id ⟨by omega, by omega⟩
  rw [this] at h ⊢
  split at h
  · omega
  · rename_i h'
    rw [if_neg h']; exact ⟨rfl, by omega⟩

theorem ct10 : CT Try.prog tabV.fns (presQ pre0) 10 s10 := by
  refine k10 tabV (fun _ _ _ => False) (fun _ _ _ => 0) pre0 (by exact ⟨rfl, rfl, rfl, rfl, trivial⟩) (by exact ⟨fun _ _ _ => trivial, fun _ _ _ => trivial, fun _ _ _ => trivial, fun _ _ _ => trivial, trivial⟩) rfl
    (by exact ⟨ct35, ct36, ct38, ct39, trivial⟩) (by exact ⟨toStream_cp, trivial⟩) (fun _ _ h _ => h) fun a b hx hl _ => ?_
  have ha : (a.length : Int) ≤ 9223372036854775807 := hl.1.2
  have hb : (b.length : Int) ≤ 9223372036854775807 := hl.2.1.2
  simp only [p10, decide_eq_true_eq, decide_eq_false_iff_not, Bool.not_eq_true', Bool.not_eq_false']
  intro y hy
  have hy := out1 (s := s35) rfl rfl rfl hy (z := if szI 1048576 a < 0 then -1 else if szI (szI 1048576 a) b < 0 then -1 else szI (szI 1048576 a) b) rfl (hasI (by
    split
    · exact ⟨by decide, by decide⟩
    · split
      · exact ⟨by decide, by decide⟩
      · exact szI_has _ _))
  refine ⟨fun _ => rfl, fun hn => ?_⟩
  have h0 : ¬ szI 1048576 a < 0 := fun e => by rw [if_pos e] at hy; omega
  rw [if_neg h0] at hy
  have h1 : ¬ szI (szI 1048576 a) b < 0 := fun e => by rw [if_pos e] at hy; omega
  obtain ⟨e0, e1⟩ := szI_le ⟨by decide, by decide⟩ ha h0
  obtain ⟨e2, e3⟩ := szI_le (x := szI 1048576 a) ⟨by omega, by omega⟩ hb h1
  have hb2 : ((a.length : Int) ≤ 1099511627776 ∧ (b.length : Int) ≤ 1099511627776) := ⟨by omega, by omega⟩
  refine ⟨hb2, fun _ u hu => ⟨hb2, fun _ v hv => ?_⟩⟩
  have hu := out1 (s := s36) rfl rfl rfl hu (z := if VS a b then 1 else 0) rfl (has01 _)
  have hv := out1 (s := s38) rfl rfl rfl hv (z := if VS a b then 1 else 0) rfl (has01 _)
  subst hu hv
  refine ⟨fun h => ?_, fun _ => ⟨hb2, fun _ z hz => ?_⟩⟩
  · simp at h
  · have hz := out1 (s := s39) rfl rfl rfl hz (z := if a = a ∧ b = b then 1 else 0) rfl (has01 _)
    rw [if_pos ⟨rfl, rfl⟩] at hz
    exact ⟨fun h => absurd hz h, fun _ => rfl⟩
end Go.Proofs.Ytaknnjlkpepgaaa.Sx
