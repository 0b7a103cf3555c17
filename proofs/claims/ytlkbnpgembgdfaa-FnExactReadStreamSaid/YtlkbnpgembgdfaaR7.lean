/-
  A stream read from a text, by the model.
-/
import Derived.Test.YtlkbnpgembgdfaaR6
namespace Go.Proofs.Ytlkbnpgembgdfaa.Sx
open Go Go.RowKit
set_option linter.unusedVariables false
set_option linter.unusedSimpArgs false

/-- The parts of a text at colons. -/
def SplitN (t : ByteArray) (m : Nat) (w : World) (e : Ending) (w' : World) : Prop := ∃ g cp, e = .returned (.slice (some ⟨g, 0, none⟩) m cp) ∧ Below w.heap.size w w'
/-- The two parts of a text. -/
def Split2 (a b : ByteArray) (w : World) (e : Ending) (w' : World) : Prop := ∃ g cp, e = .returned (.slice (some ⟨g, 0, none⟩) 2 cp) ∧ Below w.heap.size w w' ∧ w'.cell? ⟨g, 0, none⟩ = some (.string a) ∧ w'.cell? ⟨g, 1, none⟩ = some (.string b)
set_option maxRecDepth 1000000 in
set_option maxHeartbeats 4000000 in
theorem rsS_no (t : ByteArray) (ht : t.size ≤ 1048576) (hm : (stS t 58 t.size).2.length ≠ 1) : DoesT 29 t [] [] 5 := by
  intro w
  obtain ⟨W, hW, hB, y⟩ := boxK w (.slice none 0 0) (.slice none 0 0) 26
  obtain ⟨m, hmm⟩ : ∃ m, (stS t 58 t.size).2.length + 1 = m := ⟨_, rfl⟩
  have spl : Calls Try.prog 51 #[.string t, .int .u8 58] W (SplitN t m W) := (split1 t 58 W ht).mono fun e w' ⟨g, cp, h1, h2, _⟩ => ⟨g, cp, by rw [h1, hmm], h2⟩
  have hm2 : ((m : Int) == 2) = false := by rw [beq_eq_false_iff_ne]; omega
  have hlB : ∀ (s : Option Addr) (n k : Nat) (W : World), (Builtin.len_ #[72] 3 #[.slice s n k]).run Try.prog W = .ok (.int .i64 n) W := fun s n k W => rfl
  clear hm hmm
  go_enter Try.func29, Try.ntmps29
  go_wp2_with (go_at_call 51; refine spl.mono ?_)
  rintro e W1 ⟨g, cp, rfl, b1⟩
  have y := y.keep b1
  have hB1 := hB.trans (b1.mono hB.size)
  have q0 := y.c0
  have q1 := y.c1
  have f0 := y.f 0
  have f1 := y.f 1
  clear spl
  go_wp2
  obtain ⟨W9, hW9, e0, e1, r9, B9⟩ := stored y (.slice none 0 0) (.slice none 0 0)
  rw [hW9]
  refine bodyPost_ret (v := .tuple #[.agg #[.slice none 0 0, .slice none 0 0], .int .i64 5]) (by simp [results, Try.results29, go_sem, e0, e1]) rfl ?_
  exact ⟨⟨_, _, _, _, rfl, OwnL.nil, OwnL.nil, fun _ _ _ _ _ _ _ _ h => by cases h⟩, hB1.trans (B9 _ (by omega))⟩
set_option maxRecDepth 1000000 in
set_option maxHeartbeats 8000000 in
theorem rsS_two (t a b : ByteArray) (ht : t.size ≤ 1048576) (ha : a.size ≤ 1048576) (hb : b.size ≤ 1048576) (hs : (stS t 58 t.size).2 = [a]) (he : t.extract (stS t 58 t.size).1 t.size = b) (A B : List Int) (c : Int)
    (hY : goodB a = true → goodB b = true → vsB (rdL a) (rdL b) = true → A = rdL a ∧ B = rdL b ∧ c = 0) (hN : (goodB a && goodB b && vsB (rdL a) (rdL b)) = false → A = [] ∧ B = [] ∧ c = 5) : DoesT 29 t A B c := by
  intro w
  obtain ⟨W, hW, hB, y⟩ := boxK w (.slice none 0 0) (.slice none 0 0) 26
  have spl : Calls Try.prog 51 #[.string t, .int .u8 58] W (Split2 a b W) := (split1 t 58 W ht).mono fun e w' ⟨g, cp, h1, h2, h3⟩ => by
    rw [hs] at h1 h3
    rw [he] at h3
    exact ⟨g, cp, h1, h2, h3 0 _ rfl, h3 1 _ rfl⟩
  have hlB : ∀ (s : Option Addr) (n k : Nat) (W : World), (Builtin.len_ #[72] 3 #[.slice s n k]).run Try.prog W = .ok (.int .i64 n) W := fun s n k W => rfl
  have HY := Lib.hid hY
  have HN := Lib.hid hN
  have z0 := y.lt
  clear hs he hY hN
  go_enter Try.func29, Try.ntmps29
  go_wp2_with (go_at_call 51; refine spl.mono ?_)
  rintro e W1 ⟨g, cp, rfl, b1, s0, s1⟩
  have y := y.keep b1
  have hB1 := hB.trans (b1.mono hB.size)
  have z1 := b1.size
  have r1 := readS a W1 ha
  clear spl hW hB b1
  go_wp2_with (go_at_call 52; refine r1.mono ?_)
  rintro e W2 ⟨v2, l2, rfl, b2, o2, g2⟩
  have y := y.keep b2
  have hB2 := hB1.trans (b2.mono hB1.size)
  have z2 := b2.size
  have s1 := (b2.cell (p := ⟨g, 1, none⟩) (cell_lt s1)).trans s1
  have r2 := readS b W2 hb
  clear r1 s0 hB1
  go_wp2_with (go_at_call 52; refine r2.mono ?_)
  rintro e W3 ⟨v3, l3, rfl, b3, o3, g3⟩
  have y := y.keep b3
  have hB3 := hB2.trans (b3.mono hB2.size)
  have z3 := b3.size
  have p23 := o2.apart o3 (Nat.le_refl _)
  have o2 := o2.keep b3
  obtain ⟨s2, c2, rfl⟩ := o2.form
  obtain ⟨s3, c3, rfl⟩ := o3.form
  obtain ⟨V3, hV3, e3, x3⟩ := boxK W3 (.slice s2 l2.length c2) (.slice s3 l3.length c3) 26
  have y := y.keep e3
  have o2 := o2.keep e3
  have o3 := o3.keep e3
  have hB4 := hB3.trans (e3.mono hB3.size)
  have q0 := y.c0
  have q1 := y.c1
  have f0 := y.f 0
  have f1 := y.f 1
  have d0 := x3.c0
  have d1 := x3.c1
  have zx := x3.lt
  have zy := y.lt
  have L2 := Lib.hid (rdL_length a)
  have L3 := Lib.hid (rdL_length b)
  have G2 := Lib.hid g2
  have G3 := Lib.hid g3
  clear r2 hB2 hB3 e3 g2 g3 s1
  obtain ⟨ga, hga⟩ : ∃ ga, goodB a = ga := ⟨_, rfl⟩
  obtain ⟨gb, hgb⟩ : ∃ gb, goodB b = gb := ⟨_, rfl⟩
  have GA := Lib.hid hga
  have GB := Lib.hid hgb
  rw [hga, hgb] at HN
  rw [hga, hgb]
  clear hga hgb
  cases ga
  · obtain ⟨rfl, rfl, rfl⟩ := HN.out rfl
    go_wp2
    obtain ⟨W9, hW9, e0, e1, r9, B9⟩ := stored y (.slice none 0 0) (.slice none 0 0)
    rw [hW9]
    refine bodyPost_ret (v := .tuple #[.agg #[.slice none 0 0, .slice none 0 0], .int .i64 5]) (by simp [results, Try.results29, go_sem, e0, e1]) rfl ?_
    exact ⟨⟨_, _, _, _, rfl, OwnL.nil, OwnL.nil, fun _ _ _ _ _ _ _ _ h => by cases h⟩, hB4.trans (B9 _ (by omega))⟩
  · cases gb
    · obtain ⟨rfl, rfl, rfl⟩ := HN.out rfl
      go_wp2
      obtain ⟨W9, hW9, e0, e1, r9, B9⟩ := stored y (.slice none 0 0) (.slice none 0 0)
      rw [hW9]
      refine bodyPost_ret (v := .tuple #[.agg #[.slice none 0 0, .slice none 0 0], .int .i64 5]) (by simp [results, Try.results29, go_sem, e0, e1]) rfl ?_
      exact ⟨⟨_, _, _, _, rfl, OwnL.nil, OwnL.nil, fun _ _ _ _ _ _ _ _ h => by cases h⟩, hB4.trans (B9 _ (by omega))⟩
    · obtain rfl := G2.out GA.out
      obtain rfl := G3.out GB.out
      have ok3 := okS x3 o2.is o3.is (by rw [rdL_length]; omega) (by rw [rdL_length]; omega)
      obtain ⟨vs, hvs⟩ : ∃ vs, vsB (rdL a) (rdL b) = vs := ⟨_, rfl⟩
      rw [hvs] at ok3 HN
      have HV := Lib.hid hvs
      clear hvs
      go_wp2_with (go_at_call 34; refine ok3.mono ?_)
      first | (rintro e W4 rfl hs) | (rintro e W4 ⟨rfl, hs⟩)
      obtain rfl := hs.out
      clear ok3 hs
      cases vs
      · obtain ⟨rfl, rfl, rfl⟩ := HN.out rfl
        go_wp2
        obtain ⟨W9, hW9, e0, e1, r9, B9⟩ := stored y (.slice none 0 0) (.slice none 0 0)
        rw [hW9]
        refine bodyPost_ret (v := .tuple #[.agg #[.slice none 0 0, .slice none 0 0], .int .i64 5]) (by simp [results, Try.results29, go_sem, e0, e1]) rfl ?_
        exact ⟨⟨_, _, _, _, rfl, OwnL.nil, OwnL.nil, fun _ _ _ _ _ _ _ _ h => by cases h⟩, hB4.trans (B9 _ (by omega))⟩
      · obtain ⟨rfl, rfl, rfl⟩ := HY.out GA.out GB.out HV.out
        go_wp2
        obtain ⟨W9, hW9, e0, e1, r9, B9⟩ := stored y (.slice s2 (rdL a).length c2) (.slice s3 (rdL b).length c3)
        rw [hW9]
        refine bodyPost_ret (v := .tuple #[.agg #[.slice s2 (rdL a).length c2, .slice s3 (rdL b).length c3], .int .i64 0]) (by simp [results, Try.results29, go_sem, e0, e1]) rfl ?_
        exact ⟨⟨s2, c2, s3, c3, rfl, (o2.rest (by omega) r9).mono (by omega), (o3.rest (by omega) r9).mono (by omega), p23⟩, hB4.trans (B9 _ (by omega))⟩
end Go.Proofs.Ytlkbnpgembgdfaa.Sx
