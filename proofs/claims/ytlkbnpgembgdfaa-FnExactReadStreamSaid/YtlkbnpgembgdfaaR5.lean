/-
  A stream read from a text, by the code.
-/
import Derived.Test.YtlkbnpgembgdfaaR4
import Derived.Test.YtlkbnpgembgdfaaN2
namespace Go.Proofs.Ytlkbnpgembgdfaa.Sx
open Go Go.RowKit
set_option linter.unusedVariables false
set_option linter.unusedSimpArgs false

/-- What a function from a text to a stream and a code does. -/
def DoesT (g : Nat) (t : ByteArray) (A B : List Int) (c : Int) : Prop := ∀ w : World, Calls Try.prog g #[.string t] w fun e w' => Gave w w' A B c e
/-- Whether a text is that of a stream. -/
def rdOk (t : ByteArray) : Bool := cO t && vsB (rdL (cA t)) (rdL (cB t))
set_option maxRecDepth 1000000 in
set_option maxHeartbeats 4000000 in
theorem rsI (t a b : ByteArray) (ok : Bool) (ha : a.size ≤ 1048576) (hb : b.size ≤ 1048576) (cut : ∀ w, Calls Try.prog 53 #[.string t, .string ⟨#[58]⟩] w (CutP a b ok w)) (A B : List Int) (c : Int)
    (hY : ok = true → vsB (rdL a) (rdL b) = true → A = rdL a ∧ B = rdL b ∧ c = 0) (hN : (ok && vsB (rdL a) (rdL b)) = false → A = [] ∧ B = [] ∧ c = 5) : DoesT 30 t A B c := by
  intro w
  obtain ⟨W, hW, hB, y⟩ := boxK w (.slice none 0 0) (.slice none 0 0) 26
  have k1 := cut W
  have z0 := y.lt
  have HY := Lib.hid hY
  have HN := Lib.hid hN
  clear cut hY hN
  go_enter Try.func30, Try.ntmps30
  go_wp2_with (go_at_call 53; refine k1.mono ?_)
  rintro e W1 ⟨rfl, b1⟩
  have r1 := readI a W1 ha
  have z1 := b1.size
  have y := y.keep b1
  have hB1 := hB.trans (b1.mono hB.size)
  clear k1 hW hB b1
  go_wp2_with (go_at_call 54; refine r1.mono ?_)
  rintro e W2 ⟨s2, c2, rfl, b2, o2⟩
  have r2 := readI b W2 hb
  have z2 := b2.size
  have y := y.keep b2
  have hB2 := hB1.trans (b2.mono hB1.size)
  clear r1
  go_wp2_with (go_at_call 54; refine r2.mono ?_)
  rintro e W3 ⟨s3, c3, rfl, b3, o3⟩
  have y := y.keep b3
  have hB3 := hB2.trans (b3.mono hB2.size)
  have p23 := o2.apart o3 (Nat.le_refl _)
  have o2 := o2.keep b3
  obtain ⟨V3, hV3, e3, x3⟩ := boxK W3 (.slice (some s2) a.size c2) (.slice (some s3) b.size c3) 26
  have y := y.keep e3
  have o2 := o2.keep e3
  have o3 := o3.keep e3
  have hB4 := hB3.trans (e3.mono hB3.size)
  have q0 := y.c0
  have q1 := y.c1
  have f0 := y.f 0
  have f1 := y.f 1
  have d0 := x3.c0
  have d1 := x3.c1
  have z3 := x3.lt
  have ok3 := vsI o2.is o3.is (by rw [rdL_length]; omega) (by rw [rdL_length]; omega)
  have L2 := Lib.hid (rdL_length a)
  have L3 := Lib.hid (rdL_length b)
  clear r2 hB1 hB2 hB3 e3
  cases ok
  · obtain ⟨rfl, rfl, rfl⟩ := HN.out rfl
    go_wp2
    obtain ⟨W9, hW9, e0, e1, r9, B9⟩ := stored y (.slice none 0 0) (.slice none 0 0)
    rw [hW9]
    refine bodyPost_ret (v := .tuple #[.agg #[.slice none 0 0, .slice none 0 0], .int .i64 5]) (by simp [results, Try.results30, go_sem, e0, e1]) rfl ?_
    exact ⟨⟨_, _, _, _, rfl, OwnL.nil, OwnL.nil, fun _ _ _ _ _ _ _ _ h => by cases h⟩, hB4.trans (B9 _ (by omega))⟩
  · obtain ⟨vs, hvs⟩ : ∃ vs, vsB (rdL a) (rdL b) = vs := ⟨_, rfl⟩
    rw [hvs] at ok3 HN
    have HV := Lib.hid hvs
    clear hvs
    go_wp2_with (go_at_call 37; refine ok3.mono ?_)
    first | (rintro e W4 rfl b4) | (rintro e W4 ⟨rfl, b4⟩)
    have y := y.keep b4
    have x3 := x3.keep b4
    have q0 := y.c0
    have q1 := y.c1
    have f0 := y.f 0
    have f1 := y.f 1
    have d0 := x3.c0
    have d1 := x3.c1
    have o2 := o2.keep b4
    have o3 := o3.keep b4
    have hB5 := hB4.trans (b4.mono hB4.size)
    clear ok3
    cases vs
    · obtain ⟨rfl, rfl, rfl⟩ := HN.out rfl
      go_wp2
      obtain ⟨W9, hW9, e0, e1, r9, B9⟩ := stored y (.slice none 0 0) (.slice none 0 0)
      rw [hW9]
      refine bodyPost_ret (v := .tuple #[.agg #[.slice none 0 0, .slice none 0 0], .int .i64 5]) (by simp [results, Try.results30, go_sem, e0, e1]) rfl ?_
      exact ⟨⟨_, _, _, _, rfl, OwnL.nil, OwnL.nil, fun _ _ _ _ _ _ _ _ h => by cases h⟩, hB5.trans (B9 _ (by omega))⟩
    · obtain ⟨rfl, rfl, rfl⟩ := HY.out (by simp) HV.out
      go_wp2
      obtain ⟨W9, hW9, e0, e1, r9, B9⟩ := stored y (.slice (some s2) a.size c2) (.slice (some s3) b.size c3)
      rw [hW9]
      refine bodyPost_ret (v := .tuple #[.agg #[.slice (some s2) a.size c2, .slice (some s3) b.size c3], .int .i64 0]) (by simp [results, Try.results30, go_sem, e0, e1]) rfl ?_
      have zz := y.lt
      exact ⟨⟨some s2, c2, some s3, c3, by rw [L2.out, L3.out], by rw [L2.out]; exact (o2.rest (by omega) r9).mono (by omega), by rw [L3.out]; exact (o3.rest (by omega) r9).mono (by omega), by rw [L2.out, L3.out]; exact p23⟩, hB5.trans (B9 _ (by omega))⟩
end Go.Proofs.Ytlkbnpgembgdfaa.Sx
