/-
  Which trees are valid.
-/
import Derived.Test.YtickjfclmoecpaaQ1
namespace Go.Proofs.Ytickjfclmoecpaa.Sx
open Go Go.RowKit
set_option linter.unusedVariables false
set_option linter.unusedSimpArgs false

theorem qIn : CQ 70 s70 :=
  k70 tbQ noI noM prQ trivial trivial rfl trivial trivial (fun _ _ h _ => h) fun x a b _ _ _ => by
    simp only [p70, decide_eq_true_eq, decide_eq_false_iff_not]
    show (_ → [_] = [if a ≤ x ∧ x ≤ b then (1 : Int) else 0]) ∧ (_ → [0] = [if a ≤ x ∧ x ≤ b then (1 : Int) else 0])
    refine ⟨fun h => ?_, fun h => by rw [if_neg (fun e => h e.1)]⟩
    by_cases k : x ≤ b
    · rw [if_pos k, if_pos ⟨h, k⟩]
    · rw [if_neg k, if_neg (fun e => k e.2)]
theorem inT {x a b y : Int} (hy : [y] = tbQ.out 70 1 [x, a, b]) : y = 1 ↔ a ≤ x ∧ x ≤ b := by
  have := outN (T := tbQ) (F := in3F) (s := s70) rfl rfl rfl rfl hy bool1
  simp only [in3F, List.cons.injEq, and_true] at this
  exact one01 this
theorem qNoDig : CQ 72 s72 :=
  k72 tbQ noI noM prQ trivial trivial rfl trivial trivial (fun _ _ h _ => h) fun x _ _ _ => by
    simp only [p72, decide_eq_true_eq, decide_eq_false_iff_not]
    show (_ → [_] = [if -1 ≤ x ∧ x ≤ 1 then (0 : Int) else 1]) ∧ (_ → [1] = [if -1 ≤ x ∧ x ≤ 1 then (0 : Int) else 1])
    refine ⟨fun h => ?_, fun h => by rw [if_neg (fun e => h e.1)]⟩
    by_cases k : 1 < x
    · rw [if_pos k, if_neg (fun e => by omega)]
    · rw [if_neg k, if_pos ⟨h, by omega⟩]
theorem noDigT {x y : Int} (hy : [y] = tbQ.out 72 1 [x]) : y = 1 ↔ ¬ (-1 ≤ x ∧ x ≤ 1) := by
  have := outN (T := tbQ) (F := noDigF) (s := s72) rfl rfl rfl rfl hy ⟨has1 (by show 0 ≤ (if -1 ≤ x ∧ x ≤ 1 then (0 : Int) else 1) ∧ (if -1 ≤ x ∧ x ≤ 1 then (0 : Int) else 1) ≤ 1; split <;> omega), trivial⟩
  simp only [noDigF, List.cons.injEq, and_true] at this
  rw [this]
  split <;> simp_all
theorem qFk : CQ 45 s45 := by
  refine k45 tbQ noI noM prQ (by exact ⟨rfl, trivial⟩) (by exact ⟨fun _ _ _ => trivial, trivial⟩) rfl (by exact ⟨qNoDig, trivial⟩) trivial (fun _ _ h _ => h) fun k d a b c m _ _ _ => ?_
  simp only [p45, decide_eq_true_eq, decide_eq_false_iff_not, Bool.not_eq_true', Bool.not_eq_false']
  have no : ¬ FkOk k d a b c m → [0] = tbQ.app 45 [k, d, a, b, c, m] [] := fun h => by
    show [0] = [if FkOk k d a b c m then (1 : Int) else 0]
    rw [if_neg h]
  have post : ∀ (q : Prop) [Decidable q], (q ↔ FkOk k d a b c m) → [if q then (1 : Int) else 0] = tbQ.app 45 [k, d, a, b, c, m] [] := fun q _ h => by
    show _ = [if FkOk k d a b c m then (1 : Int) else 0]
    by_cases e : q
    · rw [if_pos e, if_pos (h.1 e)]
    · rw [if_neg e, if_neg (fun g => e (h.2 g))]
  refine ⟨fun a0 => ⟨fun a1 => no (by unfold FkOk; omega), fun a1 => ⟨fun b0 => ⟨fun b1 => no (by unfold FkOk; omega), fun b1 => ⟨fun c0 => ⟨fun c1 => no (by unfold FkOk; omega), fun c1 => ⟨fun k1 => post _ (by unfold FkOk; omega), fun k1 => ⟨fun k2 v hv => ?_, fun k2 => no (by unfold FkOk; omega)⟩⟩⟩,
    fun c0 => no (by unfold FkOk; omega)⟩⟩, fun b0 => no (by unfold FkOk; omega)⟩⟩, fun a0 => no (by unfold FkOk; omega)⟩
  rw [noDigT hv]
  exact ⟨fun hd => ⟨fun b2 => post _ (by unfold FkOk; omega), fun b2 => no (by unfold FkOk; omega)⟩, fun hd => no (by unfold FkOk; omega)⟩
theorem fkT {k d a b c m y : Int} (hy : [y] = tbQ.out 45 1 [k, d, a, b, c, m]) : y = 1 ↔ FkOk k d a b c m := by
  have := outN (T := tbQ) (F := fkF) (s := s45) rfl rfl rfl rfl hy bool1
  simp only [fkF, List.cons.injEq, and_true] at this
  exact one01 this
def invV (_ : Nat) (ρ σ : Env) : Prop := match ρ.l, σ.i with
  | [a], [i] => (0 ≤ i ∧ i ≤ (a.length : Int) / 5) ∧ ∀ j : Nat, (j : Int) < i → OkAt a j
  | _, _ => False
theorem vt_no {l : List Int} {n : Nat} (hn : (n : Int) < (l.length : Int) / 5) (h : ¬ OkAt l n) : ([0] : List Int) = vtF [] [l] := by
  show [0] = [if VT l then (1 : Int) else 0]
  rw [if_neg (fun e => h (e.2 n hn))]
theorem vt_len {l : List Int} (h : ¬ (1 ≤ (l.length : Int) / 5 ∧ (l.length : Int) / 5 ≤ 60)) : ([0] : List Int) = vtF [] [l] := by
  show [0] = [if VT l then (1 : Int) else 0]
  rw [if_neg (fun e => h e.1)]
theorem vt_yes {l : List Int} {n : Nat} (hl : 1 ≤ (l.length : Int) / 5 ∧ (l.length : Int) / 5 ≤ 60) (hn : ¬ (n : Int) < (l.length : Int) / 5) (h4 : ∀ j : Nat, (j : Int) < n → OkAt l j) : ([1] : List Int) = vtF [] [l] := by
  show [1] = [if VT l then (1 : Int) else 0]
  rw [if_pos ⟨hl, fun j hj => h4 j (by omega)⟩]
theorem qOk : CQ 43 s43 := by
  refine k43 tbQ invV mu5 prQ (by exact ⟨rfl, trivial⟩) (by exact ⟨fun _ _ _ => trivial, trivial⟩) rfl (by exact ⟨qIn, trivial⟩) trivial (fun _ _ h _ => h) fun l hx hl _ => ?_
  have hlen : (l.length : Int) ≤ 9223372036854775807 * 5 := hl.1.2
  simp only [p43, decide_eq_true_eq, decide_eq_false_iff_not, Bool.not_eq_true', Bool.not_eq_false', Int.zero_add]
  intro m hm v1 hv1
  subst hm
  rw [inT hv1]
  refine ⟨fun h => vt_len h, fun hb => ⟨⟨hasI ⟨by decide, by decide⟩, ⟨Int.le_refl _, by omega⟩, fun j hj => by omega⟩, fun i hi hI => ?_⟩⟩
  obtain ⟨⟨h1, h2⟩, h4⟩ : (0 ≤ i ∧ i ≤ (l.length : Int) / 5) ∧ ∀ j : Nat, (j : Int) < i → OkAt l j := hI
  obtain ⟨n, rfl⟩ := Int.eq_ofNat_of_zero_le h1
  rw [tn0, tn1, tn2, tn3, tn4]
  have bad : (n : Int) < (l.length : Int) / 5 → ¬ OkAt l n → [0] = tbQ.app 43 [] [l] := fun hn h => vt_no hn h
  have more : (n : Int) < (l.length : Int) / 5 → OkAt l n → ∀ z : Int, z = IntKind.wrap .i64 ((n : Int) + 1) → allHas [⟨-9223372036854775808, 9223372036854775807⟩] [z] ∧ invV 1 ⟨[], [l]⟩ ⟨[z], []⟩ ∧ mu5 1 ⟨[], [l]⟩ ⟨[z], []⟩ < mu5 1 ⟨[], [l]⟩ ⟨[(n : Int)], []⟩ := fun hn ho z hz => by
    rw [show IntKind.wrap .i64 ((n : Int) + 1) = (n : Int) + 1 from W_id ⟨by omega, by omega⟩] at hz
    subst hz
    refine ⟨hasI ⟨by omega, by omega⟩, ⟨⟨by omega, by omega⟩, up_next h4 ho⟩, ?_⟩
    show ((l.length : Int) / 5 - (n + 1)).toNat < ((l.length : Int) / 5 - n).toNat
    omega
  refine ⟨fun hlt => ⟨⟨h1, hlt⟩, fun _ => ⟨by omega, fun _ a ha va hva => ?_⟩⟩, fun hge => vt_yes hb hge h4⟩
  rw [inT hva]
  refine ⟨fun h => bad hlt fun e => h (by have := e.1; dsimp only [G] at this; subst ha; omega), fun h => ⟨by omega, fun _ b hb' vb hvb => ?_⟩⟩
  rw [inT hvb]
  refine ⟨fun h => bad hlt fun e => h (by have := e.2.1; dsimp only [G] at this; subst hb'; omega), fun h' => ⟨by omega, fun _ c hc vc hvc => ?_⟩⟩
  rw [inT hvc]
  refine ⟨fun h => bad hlt fun e => h (by have := e.2.2.1; dsimp only [G] at this; subst hc; omega), fun h'' => ⟨by omega, fun _ k hk => ?_⟩⟩
  subst ha hb' hc hk
  have base : FkOk (W8 (G l n 0)) (W8 (G l n 1)) (G l n 2) (G l n 3) (G l n 4) ((l.length : Int) / 5) ↔ ((W8 (G l n 0) = 1 ∧ W8 (G l n 1) = 0) ∨ (W8 (G l n 0) = 2 ∧ (-1 ≤ W8 (G l n 1) ∧ W8 (G l n 1) ≤ 1) ∧ G l n 3 = 0 ∧ G l n 4 = 0)) := by
    unfold FkOk
    dsimp only [G]
    omega
  have bad' := fun (h : ¬ _) => bad hlt fun e => h (base.1 e)
  have more' := fun h => more hlt (base.2 h)
  dsimp only [G, W8] at bad' more'
  clear bad more base
  refine ⟨fun k1 => ⟨by omega, fun _ d hd => ⟨fun h => bad' (by subst hd; omega), fun h => more' (by subst hd; omega)⟩⟩, fun k1 => ⟨fun k2 => ⟨by omega, fun _ d hd => ⟨fun d1 => ⟨by omega, fun _ d' hd' => ⟨fun d2 => ⟨by omega, fun _ x hx => ⟨fun x0 => ⟨by omega, fun _ y hy => ⟨fun y0 => bad' (by subst hd hd' hx hy; omega), fun y0 => more' (by subst hd hd' hx hy; omega)⟩⟩,
    fun x0 => bad' (by subst hd hd' hx; omega)⟩⟩, fun d2 => bad' (by subst hd hd'; omega)⟩⟩, fun d1 => bad' (by subst hd; omega)⟩⟩, fun k2 => bad' (by omega)⟩⟩
theorem okT {y : Int} {l : List Int} (hy : [y] = tbQ.outL 43 1 [] [l]) : y = if VT l then 1 else 0 := out1 (F := vtF) (s := s43) rfl rfl rfl hy rfl bool1
theorem qVTs : CQ 14 s14 := by
  refine k14 tbQ noI noM prQ (by exact ⟨rfl, trivial⟩) (by exact ⟨fun _ _ _ => trivial, trivial⟩) rfl (by exact ⟨qOk, trivial⟩) trivial (fun _ _ h _ => h) fun l hx hl _ => ?_
  unfold p14
  intro v hv
  rw [okT hv]; rfl
theorem qVTi : CQ 16 s16 := by
  refine k16 tbQ invV mu5 prQ (by exact ⟨rfl, trivial⟩) (by exact ⟨fun _ _ _ => trivial, trivial⟩) rfl (by exact ⟨qFk, trivial⟩) trivial (fun _ _ h _ => h) fun l hx hl _ => ?_
  have hlen : (l.length : Int) ≤ 9223372036854775807 * 5 := hl.1.2
  simp only [p16, decide_eq_true_eq, decide_eq_false_iff_not, Bool.not_eq_true', Bool.not_eq_false', Int.zero_add]
  refine ⟨fun h0 => ⟨fun h => vt_len (by omega), fun hb => ⟨⟨hasI ⟨by decide, by decide⟩, ⟨Int.le_refl _, by omega⟩, fun j hj => by omega⟩, fun i hi hI => ?_⟩⟩, fun h => vt_len (by omega)⟩
  obtain ⟨⟨h1, h2⟩, h4⟩ : (0 ≤ i ∧ i ≤ (l.length : Int) / 5) ∧ ∀ j : Nat, (j : Int) < i → OkAt l j := hI
  obtain ⟨n, rfl⟩ := Int.eq_ofNat_of_zero_le h1
  rw [tn0, tn1, tn2, tn3, tn4]
  refine ⟨fun hlt => ⟨⟨h1, hlt⟩, fun _ => ⟨by omega, fun _ k hk d hd a ha b hb' c hc v hv => ?_⟩⟩, fun hge => vt_yes ⟨h0, by omega⟩ hge h4⟩
  subst hk hd ha hb' hc
  rw [fkT hv]
  refine ⟨fun h => vt_no hlt h, fun h => ?_⟩
  rw [show IntKind.wrap .i64 ((n : Int) + 1) = (n : Int) + 1 from W_id ⟨by omega, by omega⟩]
  refine ⟨hasI ⟨by omega, by omega⟩, ⟨⟨by omega, by omega⟩, up_next h4 h⟩, ?_⟩
  show ((l.length : Int) / 5 - (n + 1)).toNat < ((l.length : Int) / 5 - n).toNat
  omega
theorem vtTs {y : Int} {l : List Int} (hy : [y] = tbQ.outL 14 1 [] [l]) : y = if VT l then 1 else 0 := out1 (F := vtF) (s := s14) rfl rfl rfl hy rfl bool1
theorem vtTi {y : Int} {l : List Int} (hy : [y] = tbQ.outL 16 1 [] [l]) : y = if VT l then 1 else 0 := out1 (F := vtF) (s := s16) rfl rfl rfl hy rfl bool1

theorem fValid : CQ 3 s3 := by
  refine k3 tbQ noI noM prQ (by exact ⟨rfl, rfl, rfl, rfl, trivial⟩) (by exact ⟨fun _ _ _ => trivial, fun _ _ _ => trivial, fun _ _ _ => trivial, fun _ _ _ => trivial, trivial⟩) rfl
    (by exact ⟨qSzT, qVTs, qVTi, qEqT, trivial⟩) (by exact ⟨toTree_cp, trivial⟩) (fun _ _ h _ => h) fun a hx hl _ => ?_
  have ha : (a.length : Int) ≤ 9223372036854775807 * 5 := hl.1.2
  simp only [p3, decide_eq_true_eq, decide_eq_false_iff_not, Bool.not_eq_true', Bool.not_eq_false']
  intro v hv
  have hv := szT hv
  subst hv
  refine ⟨fun _ => rfl, fun hn => ?_⟩
  obtain ⟨q1, q2⟩ := sz5_le ⟨by decide, by decide⟩ ha hn
  have ga : (a.length : Int) ≤ 1099511627776 := by omega
  refine ⟨ga, fun _ u hu => ⟨ga, fun _ t ht => ?_⟩⟩
  have e : t = u := (vtTi ht).trans (vtTs hu).symm
  subst e
  refine ⟨fun h => ?_, fun _ => ⟨ga, fun _ r hr => ⟨fun h => absurd (eqR hr) h, fun _ => rfl⟩⟩⟩
  simp at h
end Go.Proofs.Ytickjfclmoecpaa.Sx
