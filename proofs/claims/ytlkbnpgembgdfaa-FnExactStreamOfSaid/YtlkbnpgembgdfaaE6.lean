/-
  The stream of a ratio, by the code.
-/
import Derived.Test.YtlkbnpgembgdfaaE4
import Derived.Test.YtlkbnpgembgdfaaM3
namespace Go.Proofs.Ytlkbnpgembgdfaa.Sx
open Go Go.RowKit
set_option linter.unusedVariables false
set_option linter.unusedSimpArgs false

/-- What a function from a ratio to a stream and a code does. -/
def DoesR (g : Nat) (p q : Int) (A B : List Int) (c : Int) : Prop := ∀ w : World, Calls Try.prog g #[.agg #[.int .i64 p, .int .i64 q]] w fun e w' => Gave w w' A B c e
theorem SRel.ex (q p : Int) : ∃ A B ok, SRel q p A B ok := by
  have h : ∀ k, k ≤ 31 → Dist q p k ∨ ∃ i k', i < k' ∧ k' ≤ 30 ∧ orb q p i = orb q p k' ∧ Dist q p k' := by
    intro k
    induction k with
    | zero => exact fun _ => .inl fun i j h1 h2 => by omega
    | succ k ih =>
      intro hk
      rcases ih (by omega) with h | h
      · by_cases he : ∃ i, i < k ∧ orb q p i = orb q p k
        · obtain ⟨i, h1, h2⟩ := he
          exact .inr ⟨i, k, h1, by omega, h2, h⟩
        · exact .inl (h.succ fun i hi e => he ⟨i, hi, e⟩)
      · exact .inr h
  rcases h 31 (Nat.le_refl _) with h | ⟨i, k, h1, h2, h3, h4⟩
  · exact ⟨_, _, false, .inr ⟨rfl, h, rfl, rfl⟩⟩
  · exact ⟨_, _, true, .inl ⟨rfl, i, k, h1, h2, h3, h4, rfl, rfl⟩⟩
/-- The lists are short. -/
theorem SRel.len {q p : Int} {A B : List Int} {ok : Bool} (h : SRel q p A B ok) : A.length ≤ 30 ∧ B.length ≤ 30 := by
  rcases h with ⟨_, i, k, h1, h2, _, _, rfl, rfl⟩ | ⟨_, _, rfl, rfl⟩
  · rw [List.length_take, List.length_drop, odL_len]; omega
  · exact ⟨Nat.zero_le _, Nat.zero_le _⟩
/-- The answer. -/
structure Ans (p q : Int) (A B : List Int) (c : Int) : Prop where
  mk ::
  no : rokB p q = false → A = [] ∧ B = [] ∧ c = 1
  out : rokB p q = true → ¬ (-q ≤ p ∧ p ≤ q) → A = [] ∧ B = [] ∧ c = 2
  yes : rokB p q = true → (-q ≤ p ∧ p ≤ q) → ∀ X Y ok, SRel q p X Y ok → (ok = true → vsB X Y = true → A = X ∧ B = Y ∧ c = 0) ∧ ((ok && vsB X Y) = false → A = [] ∧ B = [] ∧ c = 3)
theorem Ans.ex (p q : Int) : ∃ A B c, Ans p q A B c ∧ A.length ≤ 30 ∧ B.length ≤ 30 := by
  cases h : rokB p q
  · exact ⟨[], [], 1, ⟨fun _ => ⟨rfl, rfl, rfl⟩, (fun e => by rw [h] at e; cases e), (fun e => by rw [h] at e; cases e)⟩, by simp, by simp⟩
  · by_cases hr : -q ≤ p ∧ p ≤ q
    · obtain ⟨X, Y, ok, hS⟩ := SRel.ex q p
      have hl := hS.len
      cases hv : (ok && vsB X Y)
      · refine ⟨[], [], 3, ⟨(fun e => by rw [h] at e; cases e), (fun _ e => absurd hr e), fun _ _ X' Y' ok' h' => ?_⟩, by simp, by simp⟩
        obtain ⟨rfl, rfl, rfl⟩ := hS.uniq h'
        exact ⟨(fun e1 e2 => by rw [e1, e2] at hv; cases hv), fun _ => ⟨rfl, rfl, rfl⟩⟩
      · refine ⟨X, Y, 0, ⟨(fun e => by rw [h] at e; cases e), (fun _ e => absurd hr e), fun _ _ X' Y' ok' h' => ?_⟩, hl⟩
        obtain ⟨rfl, rfl, rfl⟩ := hS.uniq h'
        exact ⟨fun _ _ => ⟨rfl, rfl, rfl⟩, (fun e => by rw [hv] at e; cases e)⟩
    · exact ⟨[], [], 2, ⟨(fun e => by rw [h] at e; cases e), fun _ _ => ⟨rfl, rfl, rfl⟩, fun _ e => absurd e hr⟩, by simp, by simp⟩
set_option maxRecDepth 1000000 in
set_option maxHeartbeats 8000000 in
theorem streamOfI (p q : Int) (A B : List Int) (c : Int) (hA : Ans p q A B c) : DoesR 28 p q A B c := by
  intro w
  obtain ⟨W, hW, hB, x⟩ := boxK w (.int .i64 p) (.int .i64 q) 41
  obtain ⟨V, hV, hB2, y⟩ := boxK W (.slice none 0 0) (.slice none 0 0) 26
  have x := x.keep hB2
  have hB3 := hB.trans (hB2.mono hB.size)
  have c0 := x.c0
  have c1 := x.c1
  have vr := vrI p q V
  have X := Lib.hid x
  have Y := Lib.hid y
  have AN := Lib.hid hA
  have z1 : w.heap.size < W.heap.size := by rw [← hW]; simp
  have z2 := y.lt
  obtain ⟨v, hv⟩ : ∃ v, rokB p q = v := ⟨_, rfl⟩
  rw [hv] at vr
  have HV := Lib.hid hv
  clear x y hB hB2 hA
  cases v
  · obtain ⟨rfl, rfl, rfl⟩ := AN.out.no HV.out
    clear hv
    go_enter Try.func28, Try.ntmps28
    go_wp2_with (go_at_call 47; refine vr.mono ?_)
    first | (rintro e W1 rfl b1) | (rintro e W1 ⟨rfl, b1⟩)
    have y := Y.out.keep b1
    have q0 := y.c0
    have q1 := y.c1
    have f0 := y.f 0
    have f1 := y.f 1
    have hB4 := hB3.trans (b1.mono hB3.size)
    go_wp2
    obtain ⟨W9, hW9, e0, e1, r9, B9⟩ := stored y (.slice none 0 0) (.slice none 0 0)
    rw [hW9]
    refine bodyPost_ret (v := .tuple #[.agg #[.slice none 0 0, .slice none 0 0], .int .i64 1]) (by simp [results, Try.results28, go_sem, e0, e1]) rfl ?_
    exact ⟨⟨_, _, _, _, rfl, OwnL.nil, OwnL.nil, fun _ _ _ _ _ _ _ _ h => by cases h⟩, hB4.trans (B9 _ (by omega))⟩
  · obtain ⟨k1, k2, k3, k4, k5⟩ := (rokB_iff p q).1 hv
    clear hv
    by_cases hr : -q ≤ p ∧ p ≤ q
    · have SF := Lib.hid fun W => streamFromR q p W k1 k2 hr
      have WI := Lib.hid fun W => within p q W (by omega) (by omega)
      have AY := Lib.hid (AN.out.yes HV.out hr)
      rw [dec2 hr] at WI
      clear k1 k2 k3 k4 k5 hr
      go_enter Try.func28, Try.ntmps28
      go_wp2_with (go_at_call 47; refine vr.mono ?_)
      first | (rintro e W1 rfl b1) | (rintro e W1 ⟨rfl, b1⟩)
      have y := Y.out.keep b1
      have x := X.out.keep b1
      have hB4 := hB3.trans (b1.mono hB3.size)
      have c0 := x.c0
      have c1 := x.c1
      have w1 := WI.out W1
      have s1 := SF.out W1
      have zv := b1.size
      clear vr b1
      go_wp2_with (go_at_call 48; refine w1.mono ?_)
      first | (rintro e W2 rfl hs) | (rintro e W2 ⟨rfl, hs⟩)
      obtain rfl := hs.out
      clear hs w1
      go_wp2_with (go_at_call 49; refine s1.mono ?_)
      rintro e W3 ⟨X3, Y3, ok, v0, v1, hS, rfl, b3, o3⟩
      obtain ⟨s0, d0, rfl⟩ := o3.o0.form
      obtain ⟨s1', d1, rfl⟩ := o3.o1.form
      have hl := hS.len
      obtain ⟨AY1, AY2⟩ := AY.out _ _ _ hS
      obtain ⟨U, hU, bU, xU⟩ := boxK W3 (.slice s0 X3.length d0) (.slice s1' Y3.length d1) 26
      have y := (y.keep b3).keep bU
      have o3 := o3.keep bU
      have hB5 := (hB4.trans (b3.mono hB4.size)).trans (bU.mono (Nat.le_trans hB4.size b3.size))
      have ok3 := vsI o3.o0.is o3.o1.is (by omega) (by omega)
      have k0 := xU.c0
      have k1 := xU.c1
      have q0 := y.c0
      have q1 := y.c1
      have f0 := y.f 0
      have f1 := y.f 1
      clear s1 hS b3 bU
      cases ok
      · obtain ⟨rfl, rfl, rfl⟩ := AY2 (by simp)
        go_wp2
        obtain ⟨W9, hW9, e0, e1, r9, B9⟩ := stored y (.slice none 0 0) (.slice none 0 0)
        rw [hW9]
        refine bodyPost_ret (v := .tuple #[.agg #[.slice none 0 0, .slice none 0 0], .int .i64 3]) (by simp [results, Try.results28, go_sem, e0, e1]) rfl ?_
        exact ⟨⟨_, _, _, _, rfl, OwnL.nil, OwnL.nil, fun _ _ _ _ _ _ _ _ h => by cases h⟩, hB5.trans (B9 _ (by omega))⟩
      · obtain ⟨vs, hvs⟩ : ∃ vs, vsB X3 Y3 = vs := ⟨_, rfl⟩
        rw [hvs] at ok3 AY1 AY2
        clear hvs
        go_wp2_with (go_at_call 37; refine ok3.mono ?_)
        first | (rintro e W4 rfl b4) | (rintro e W4 ⟨rfl, b4⟩)
        have y := y.keep b4
        have x3 := xU.keep b4
        have q0 := y.c0
        have q1 := y.c1
        have f0 := y.f 0
        have f1 := y.f 1
        have k0 := x3.c0
        have k1 := x3.c1
        have o3 := o3.keep b4
        have hB6 := hB5.trans (b4.mono hB5.size)
        clear ok3
        cases vs
        · obtain ⟨rfl, rfl, rfl⟩ := AY2 (by simp)
          go_wp2
          obtain ⟨W9, hW9, e0, e1, r9, B9⟩ := stored y (.slice none 0 0) (.slice none 0 0)
          rw [hW9]
          refine bodyPost_ret (v := .tuple #[.agg #[.slice none 0 0, .slice none 0 0], .int .i64 3]) (by simp [results, Try.results28, go_sem, e0, e1]) rfl ?_
          exact ⟨⟨_, _, _, _, rfl, OwnL.nil, OwnL.nil, fun _ _ _ _ _ _ _ _ h => by cases h⟩, hB6.trans (B9 _ (by omega))⟩
        · obtain ⟨rfl, rfl, rfl⟩ := AY1 (by simp) (by simp)
          go_wp2
          obtain ⟨W9, hW9, e0, e1, r9, B9⟩ := stored y (.slice s0 A.length d0) (.slice s1' B.length d1)
          rw [hW9]
          refine bodyPost_ret (v := .tuple #[.agg #[.slice s0 A.length d0, .slice s1' B.length d1], .int .i64 0]) (by simp [results, Try.results28, go_sem, e0, e1]) rfl ?_
          exact ⟨⟨s0, d0, s1', d1, rfl, (o3.o0.rest (by omega) r9).mono (by omega), (o3.o1.rest (by omega) r9).mono (by omega), o3.apart⟩, hB6.trans (B9 _ (by omega))⟩
    · obtain ⟨rfl, rfl, rfl⟩ := AN.out.out HV.out hr
      have WI := Lib.hid fun W => within p q W (by omega) (by omega)
      rw [dec2n hr] at WI
      clear k1 k2 k3 k4 k5 hr
      go_enter Try.func28, Try.ntmps28
      go_wp2_with (go_at_call 47; refine vr.mono ?_)
      first | (rintro e W1 rfl b1) | (rintro e W1 ⟨rfl, b1⟩)
      have y := Y.out.keep b1
      have x := X.out.keep b1
      have hB4 := hB3.trans (b1.mono hB3.size)
      have c0 := x.c0
      have c1 := x.c1
      have w1 := WI.out W1
      have zv := b1.size
      clear vr b1
      go_wp2_with (go_at_call 48; refine w1.mono ?_)
      first | (rintro e W2 rfl hs) | (rintro e W2 ⟨rfl, hs⟩)
      obtain rfl := hs.out
      have q0 := y.c0
      have q1 := y.c1
      have f0 := y.f 0
      have f1 := y.f 1
      clear hs w1
      go_wp2
      obtain ⟨W9, hW9, e0, e1, r9, B9⟩ := stored y (.slice none 0 0) (.slice none 0 0)
      rw [hW9]
      refine bodyPost_ret (v := .tuple #[.agg #[.slice none 0 0, .slice none 0 0], .int .i64 2]) (by simp [results, Try.results28, go_sem, e0, e1]) rfl ?_
      exact ⟨⟨_, _, _, _, rfl, OwnL.nil, OwnL.nil, fun _ _ _ _ _ _ _ _ h => by cases h⟩, hB4.trans (B9 _ (by omega))⟩
end Go.Proofs.Ytlkbnpgembgdfaa.Sx
