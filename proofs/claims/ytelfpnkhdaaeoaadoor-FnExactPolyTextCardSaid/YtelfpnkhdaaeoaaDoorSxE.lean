/-
  The symbolic executor: the operations that compute.
-/
import Derived.Test.YtelfpnkhdaaeoaaDoorSxD
import Derived.Laws.StructEq
namespace Go.Proofs.YtelfpnkhdaaeoaaDoor.Sx
open Go Go.RowKit

/-! ## '==' -/
/-- Cells of a type as a value. -/
def valT (P : Program) (d : Dn) (t : TypeId) (cs : List Cell) : Value :=
  if aggT P t = true then .agg (cs.map (Cell.den d)).toArray else compV d (false, cs)

section
variable {P : Program} {R : Bds} {d : Dn} {w : World}

theorem part_valT {t : TypeId} {cs : List Cell} {off m : Nat} (hm : sizeT P t = some m) {u : TypeDesc} (hu : P.underlying t = some u) (hl : off + m ≤ cs.length)
    (h1 : aggT P t = false → m = 1) : (part t (cs.map (Cell.den d)).toArray off).run P w = .ok (valT P d t ((cs.drop off).take m)) w := by
  have hp : partT P t cs off = some (if aggT P t = true then .agg ((cs.drop off).take m) else (headOne (cs.drop off)).getD .undef) := by
    unfold partT
    rw [hu, hm]
    cases ha : aggT P t <;> simp only [cond_false, cond_true, Bool.false_eq_true, if_false, if_true]
    · have : 1 ≤ (cs.drop off).length := by rw [List.length_drop, ← h1 ha]; omega
      cases hd : cs.drop off with
      | nil => simp [hd] at this
      | cons c r => rfl
    · rw [Nat.ble_eq_true_of_le hl]; rfl
  obtain ⟨v, hv, hs⟩ := part_run (w := w) d hp
  rw [hv]
  congr 1
  unfold valT
  cases ha : aggT P t <;> simp only [ha, Bool.false_eq_true, if_false, if_true] at hs ⊢
  · have h2 := h1 ha
    subst h2
    have : 1 ≤ (cs.drop off).length := by rw [List.length_drop]; omega
    cases hd : cs.drop off with
    | nil => simp [hd] at this
    | cons c r => rw [hd] at hs; exact hs
  · exact hs

theorem u8_inj {x y : List Int} (hx : ∀ a ∈ x, 0 ≤ a ∧ a < 256) (hy : ∀ a ∈ y, 0 ≤ a ∧ a < 256) (h : x.map u8 = y.map u8) : x = y := by
  induction x generalizing y with
  | nil => cases y with
    | nil => rfl
    | cons b y => simp at h
  | cons a x ih => cases y with
    | nil => simp at h
    | cons b y =>
      simp only [List.map_cons, List.cons.injEq] at h
      have ha := hx a List.mem_cons_self
      have hb := hy b List.mem_cons_self
      have e : a = b := by
        have := congrArg UInt8.toNat h.1
        simp only [u8, UInt8.toNat_ofNat'] at this
        omega
      rw [e, ih (fun c hc => hx c (List.mem_cons_of_mem _ hc)) (fun c hc => hy c (List.mem_cons_of_mem _ hc)) h.2]

theorem str_toList (x : List Int) : (⟨(x.map u8).toArray⟩ : ByteArray).toList = x.map u8 := by
  rw [ByteArray.toList_eq]

theorem eqCell_run (hR : RV d.Φ R d.ρ) {u : TypeDesc} {a b : Cell} {r : B} (h : eqCell R u a b = some r) {D : Nat} {t : TypeId} (ht : P.underlying t = some u) :
    (Op.equalIn (D + 1) t (a.den d) (b.den d)).run P w = .ok (r.den d.Φ d.ρ) w := by
  unfold eqCell at h
  split at h
  · rename_i k0 k x k' y
    cases e : decide (k = k') <;> simp only [e, cond_false, cond_true] at h
    · cases h
    · simp only [decide_eq_true_eq] at e; subst e; cases h
      simp only [Cell.den, run_equalIn_int w D t k _ _ _ ht, mkEq_den hR]
      rfl
  · cases h
    simp only [Cell.den, run_equalIn_bool w D t _ _ ht, mkBeq_den]
  · rename_i x y
    split at h
    · rename_i p q hp hq
      cases e : (p.1.sub ⟨0, 255⟩ && q.1.sub ⟨0, 255⟩) <;> simp only [e, cond_false, cond_true] at h
      · cases h
      · cases h
        simp only [Bool.and_eq_true] at e
        have b1 := (L.iv_ok hR x hp).1
        have b2 := (L.iv_ok hR y hq).1
        have c1 : ∀ a ∈ x.den d.Φ d.ρ, 0 ≤ a ∧ a < 256 := fun a ha => by
          have := Iv.sub_has e.1 (b1 a ha); simp only [Iv.has] at this; omega
        have c2 : ∀ a ∈ y.den d.Φ d.ρ, 0 ≤ a ∧ a < 256 := fun a ha => by
          have := Iv.sub_has e.2 (b2 a ha); simp only [Iv.has] at this; omega
        simp only [Cell.den, run_equalIn_string w D t _ _ ht, str_toList, B.den]
        congr 1
        by_cases hxy : x.den d.Φ d.ρ = y.den d.Φ d.ρ
        · simp [hxy]
        · have : ¬ (x.den d.Φ d.ρ).map u8 = (y.den d.Φ d.ρ).map u8 := fun h' => hxy (u8_inj c1 c2 h')
          simp [hxy, this]
    · cases h
  · cases h

theorem andO_some {a b : Option B} {r : B} (h : andO a b = some r) : ∃ x y, a = some x ∧ b = some y ∧ r = mkAnd x y := by
  unfold andO at h
  split at h
  · cases h; exact ⟨_, _, rfl, rfl, rfl⟩
  · cases h

theorem shapeT_spec {t : TypeId} {m : Nat} (h : shapeT P t m = true) : (∃ u, P.underlying t = some u) ∧ (aggT P t = false → m = 1) := by
  simp only [shapeT, Bool.and_eq_true, Bool.or_eq_true] at h
  obtain ⟨h1, h2⟩ := h
  refine ⟨Option.isSome_iff_exists.1 h1, fun ha => ?_⟩
  rcases h2 with h2 | h2
  · rw [ha] at h2; cases h2
  · exact Nat.eq_of_beq_eq_true h2

theorem eqFlds_run {D : Nat} {rec : TypeId → List Cell → List Cell → Option B} {xs ys : List Cell}
    (hrec : ∀ t as bs r w, rec t as bs = some r → (Op.equalIn D t (valT P d t as) (valT P d t bs)).run P w = .ok (r.den d.Φ d.ρ) w) :
    ∀ (fs : List Field) (r : B), eqFlds P rec xs ys fs = some r → ∀ w,
      (Op.eqFields D (xs.map (Cell.den d)).toArray (ys.map (Cell.den d)).toArray fs).run P w = .ok (r.den d.Φ d.ρ) w
  | [], r, h, w => by simp only [eqFlds, Option.some.injEq] at h; subst h; rfl
  | f :: fs, r, h, w => by
    simp only [eqFlds] at h
    cases e : decide (f.name = "_") <;> simp only [e, cond_false, cond_true] at h
    · simp only [decide_eq_false_iff_not] at e
      split at h
      · rename_i m hm
        cases e2 : (shapeT P f.type m && (Nat.ble (f.offset + m) xs.length && Nat.ble (f.offset + m) ys.length)) <;> simp only [e2, cond_false, cond_true] at h
        · cases h
        · simp only [Bool.and_eq_true] at e2
          obtain ⟨hs, hl1, hl2⟩ := e2
          obtain ⟨⟨u, hu⟩, h1⟩ := shapeT_spec hs
          obtain ⟨x, y, hx, hy, rfl⟩ := andO_some h
          have ih := eqFlds_run hrec fs y hy w
          simp only [Op.eqFields, e, ne_eq, not_false_eq_true, if_true, Sem.run_bind, part_valT hm hu (Nat.le_of_ble_eq_true hl1) h1,
            part_valT hm hu (Nat.le_of_ble_eq_true hl2) h1, Result.andThen_ok, hrec _ _ _ _ w hx, mkAnd_den]
          cases x.den d.Φ d.ρ
          · rfl
          · simpa using ih
      · cases h
    · simp only [decide_eq_true_eq] at e
      simp only [Op.eqFields, e, ne_eq, not_true_eq_false, if_false]
      exact eqFlds_run hrec fs r h w

theorem eqArr_run {D e : Nat} {rec : List Cell → List Cell → Option B} {m : Nat} (hm : sizeT P e = some m) {u : TypeDesc} (hu : P.underlying e = some u) (h1 : aggT P e = false → m = 1)
    (hrec : ∀ as bs r w, rec as bs = some r → (Op.equalIn D e (valT P d e as) (valT P d e bs)).run P w = .ok (r.den d.Φ d.ρ) w) (xs ys : List Cell) :
    ∀ (n i : Nat) (r : B), eqArr rec m n (xs.drop (i * m)) (ys.drop (i * m)) = some r → (i + n) * m ≤ xs.length → (i + n) * m ≤ ys.length → ∀ w,
      ((do
        for j in List.range' i n do
          if !(← Op.equalIn D e (← part e (xs.map (Cell.den d)).toArray (j * m)) (← part e (ys.map (Cell.den d)).toArray (j * m))) then return false
        pure true : Sem Bool)).run P w = .ok (r.den d.Φ d.ρ) w
  | 0, i, r, h, _, _, w => by simp only [eqArr, Option.some.injEq] at h; subst h; simp [B.den]
  | n + 1, i, r, h, hx, hy, w => by
    simp only [eqArr] at h
    obtain ⟨x, y, hx', hy', rfl⟩ := andO_some h
    rw [List.drop_drop, List.drop_drop, show i * m + m = (i + 1) * m by rw [Nat.add_mul, Nat.one_mul]] at hy'
    have ih := eqArr_run hm hu h1 hrec xs ys n (i + 1) y hy' (by rw [show i + 1 + n = i + (n + 1) by omega]; exact hx) (by rw [show i + 1 + n = i + (n + 1) by omega]; exact hy) w
    have l1 : i * m + m ≤ xs.length := by
      have : (i + (n + 1)) * m = i * m + m + n * m := by simp [Nat.add_mul]; omega
      omega
    have l2 : i * m + m ≤ ys.length := by
      have : (i + (n + 1)) * m = i * m + m + n * m := by simp [Nat.add_mul]; omega
      omega
    simp only [List.range'_succ, List.forIn_cons, Sem.run_bind, bind_assoc, part_valT hm hu l1 h1, part_valT hm hu l2 h1, Result.andThen_ok, hrec _ _ _ w hx', mkAnd_den]
    simp only [Sem.run_bind] at ih
    cases x.den d.Φ d.ρ
    · simp
    · simpa using ih

theorem run_equalIn_array {D : Nat} {t e n m : Nat} (ht : P.underlying t = some (.array n e)) (hm : sizeT P e = some m) (xs ys : Array Value) :
    (Op.equalIn (D + 1) t (.agg xs) (.agg ys)).run P w = ((do
        for j in List.range' 0 n do
          if !(← Op.equalIn D e (← part e xs (j * m)) (← part e ys (j * m))) then return false
        pure true : Sem Bool)).run P w := by
  simp only [Op.equalIn, Sem.run_bind, run_und ht, Result.andThen_ok, run_size hm]
  simp [Std.Legacy.Range.forIn_eq_forIn_range']

theorem eqV_run (hR : RV d.Φ R d.ρ) : ∀ (n D : Nat) (t : TypeId) (xs ys : List Cell) (r : B) (w : World), n ≤ D → eqV P R n t xs ys = some r →
    (Op.equalIn D t (valT P d t xs) (valT P d t ys)).run P w = .ok (r.den d.Φ d.ρ) w
  | 0, _, _, _, _, _, _, _, h => by cases h
  | n + 1, 0, _, _, _, _, _, hD, _ => by omega
  | n + 1, D + 1, t, xs, ys, r, w, hD, h => by
    simp only [eqV] at h
    split at h
    · rename_i k e hu
      split at h
      · rename_i m hm
        cases e2 : (shapeT P e m && (Nat.beq xs.length (k * m) && Nat.beq ys.length (k * m))) <;> simp only [e2, cond_false, cond_true] at h
        · cases h
        · simp only [Bool.and_eq_true] at e2
          obtain ⟨hs, hl1, hl2⟩ := e2
          obtain ⟨⟨u, hu'⟩, h1⟩ := shapeT_spec hs
          have ha : aggT P t = true := by unfold aggT; rw [hu]
          simp only [valT, ha, if_true]
          rw [run_equalIn_array hu hm]
          have l1 := Nat.eq_of_beq_eq_true hl1
          have l2 := Nat.eq_of_beq_eq_true hl2
          exact eqArr_run (D := D) hm hu' h1 (fun as bs r w hr => eqV_run hR n D e as bs r w (by omega) hr) xs ys k 0 r (by simpa using h) (by simp [l1]) (by simp [l2]) w
      · cases h
    · rename_i fs hu
      cases e : P.stoodInHeld t <;> simp only [e, cond_false, cond_true] at h
      · have ha : aggT P t = true := by unfold aggT; rw [hu]
        simp only [valT, ha, if_true]
        have hf : P.fieldsOf t = fs := by simp [Program.fieldsOf, hu]
        rw [run_equalIn_struct w D t _ _ (by rw [hf]; exact hu) e, hf]
        exact eqFlds_run (fun t as bs r w hr => eqV_run hR n D t as bs r w (by omega) hr) _ r h w
      · cases h
    · rename_i u hna hns hu
      unfold eqOne at h
      split at h
      · rename_i x y
        have ha : aggT P t = false := by
          unfold aggT; rw [hu]
          cases u <;> first | rfl | exact absurd rfl (hns _) | exact absurd rfl (hna _ _)
        simp only [valT, ha, Bool.false_eq_true, if_false, compV]
        exact eqCell_run hR h hu
      · cases h
    · cases h

/-- An operand's value, of the shape that a type asks. -/
theorem shapeOk_val {t : TypeId} {sv : SV} {v : Value} (h : shapeOk P t sv = true) (hv : sv.is d v) : v = valT P d t sv.cells := by
  cases sv with
  | one c =>
    simp only [shapeOk, Bool.not_eq_true'] at h
    simp only [valT, h, Bool.false_eq_true, if_false, SV.cells, compV]
    exact hv
  | agg cs =>
    simp only [shapeOk, Bool.and_eq_true] at h
    simp only [valT, h.1, if_true, SV.cells]
    exact hv
  | tup _ => cases h
  | any => cases h
end
end Go.Proofs.YtelfpnkhdaaeoaaDoor.Sx
