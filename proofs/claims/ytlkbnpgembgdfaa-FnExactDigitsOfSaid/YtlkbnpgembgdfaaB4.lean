/-
  The first digits of a stream: refusals.
-/
import Derived.Test.YtlkbnpgembgdfaaB3
namespace Go.Proofs.Ytlkbnpgembgdfaa.Sx
open Go Go.RowKit
set_option linter.unusedVariables false
set_option linter.unusedSimpArgs false

set_option maxRecDepth 1000000 in
set_option maxHeartbeats 4000000 in
theorem digitsI_no (a b : List Int) (hv : vsB a b = false) (la : a.length ≤ 9223372036854775807) (lb : b.length ≤ 9223372036854775807) (n : Int) : DoesL 22 a b n [] 1 := by
  intro w v0 v1 h0 h1
  obtain ⟨s0, k0, rfl⟩ := h0.form
  obtain ⟨s1, k1, rfl⟩ := h1.form
  obtain ⟨W, hW, hB, x⟩ := boxK w (.slice s0 a.length k0) (.slice s1 b.length k1) 26
  obtain ⟨V, hV, hB2, xn⟩ := oneK W (.int .i64 n) 2
  have ok := vsI ((h0.keep hB).keep hB2) ((h1.keep hB).keep hB2) la lb
  rw [hv] at ok
  have y := x.keep hB2
  have c0 := y.c0
  have c1 := y.c1
  have hB3 := hB.trans (hB2.mono hB.size)
  clear hv h0 h1 x y
  go_enter Try.func22, Try.ntmps22
  go_wp2_with (go_at_call 37; refine ok.mono ?_)
  first | (rintro e W1 rfl b1) | (rintro e W1 ⟨rfl, b1⟩)
  go_wp2
  refine bodyPost_ret (v := .tuple #[.slice none 0 0, .int .i64 1]) (by simp [results, Try.results22, go_sem]) rfl ?_
  exact ⟨⟨_, _, rfl, OwnL.nil⟩, hB3.trans (b1.mono hB3.size)⟩
set_option maxRecDepth 1000000 in
set_option maxHeartbeats 4000000 in
theorem digitsI_out (a b : List Int) (hv : vsB a b = true) (n : Int) (hn : n < 0 ∨ 400 < n) : DoesL 22 a b n [] 2 := by
  intro w v0 v1 h0 h1
  have hvv := (vsB_iff a b).1 hv
  obtain ⟨s0, k0, rfl⟩ := h0.form
  obtain ⟨s1, k1, rfl⟩ := h1.form
  obtain ⟨W, hW, hB, x⟩ := boxK w (.slice s0 a.length k0) (.slice s1 b.length k1) 26
  obtain ⟨V, hV, hB2, xn⟩ := oneK W (.int .i64 n) 2
  have ok := vsI ((h0.keep hB).keep hB2) ((h1.keep hB).keep hB2) (by omega) (by omega)
  rw [hv] at ok
  have y := x.keep hB2
  have c0 := y.c0
  have c1 := y.c1
  have hB3 := hB.trans (hB2.mono hB.size)
  have cn : V.cell? ⟨W.heap.size, 0, none⟩ = some (.int .i64 n) := by rw [Lib.cell_of_heap xn]; rfl
  clear hv hvv h0 h1 x y
  go_enter Try.func22, Try.ntmps22
  go_wp2_with (go_at_call 37; refine ok.mono ?_)
  first | (rintro e W1 rfl b1) | (rintro e W1 ⟨rfl, b1⟩)
  have cn := (b1.cell (p := ⟨W.heap.size, 0, none⟩) (cell_lt cn)).trans cn
  by_cases h : n < 0
  · have hd := decide_eq_true h
    go_wp2
    refine bodyPost_ret (v := .tuple #[.slice none 0 0, .int .i64 2]) (by simp [results, Try.results22, go_sem]) rfl ?_
    exact ⟨⟨_, _, rfl, OwnL.nil⟩, hB3.trans (b1.mono hB3.size)⟩
  · have hd := decide_eq_false h
    have h4 : 400 < n := by omega
    have he := decide_eq_true h4
    go_wp2
    refine bodyPost_ret (v := .tuple #[.slice none 0 0, .int .i64 2]) (by simp [results, Try.results22, go_sem]) rfl ?_
    exact ⟨⟨_, _, rfl, OwnL.nil⟩, hB3.trans (b1.mono hB3.size)⟩
/-- An empty list that is made. -/
theorem emptyK (w : World) : ∃ W, w.alloc (.cells #[] 53) = W ∧ Below w.heap.size w W ∧ OwnL .i8 w.heap.size W [] (.slice (some ⟨w.heap.size, 0, none⟩) ([] : List Int).length 0) :=
  ⟨_, rfl, (Below.refl _ _).alloc (Nat.le_refl _) _, .inr ⟨w.heap.size, 0, 0, #[], 53, rfl, Nat.le_refl _, by show (w.heap.push _)[w.heap.size]? = _; simp, Nat.le_refl _, Nat.le_refl _, fun i x h => by simp at h⟩⟩
set_option maxRecDepth 1000000 in
set_option maxHeartbeats 4000000 in
theorem digitsS_no (a b : List Int) (hv : vsB a b = false) (la : a.length ≤ 9223372036854775807) (lb : b.length ≤ 9223372036854775807) (n : Int) : DoesL 21 a b n [] 1 := by
  intro w v0 v1 h0 h1
  obtain ⟨W, hW, hB, x⟩ := boxK w v0 v1 26
  have ok := okS x (h0.keep hB) (h1.keep hB) la lb
  rw [hv] at ok
  have zx := x.lt
  clear hv h0 h1 x
  go_enter Try.func21, Try.ntmps21
  go_wp2_with (go_at_call 34; refine ok.mono ?_)
  first | (rintro e W1 rfl hs) | (rintro e W1 ⟨rfl, hs⟩)
  obtain rfl := hs.out
  clear hs ok
  obtain ⟨V, hV, b2, o2⟩ := emptyK W1
  go_wp2
  refine bodyPost_ret (v := .tuple #[.slice (some ⟨W1.heap.size, 0, none⟩) 0 0, .int .i64 1]) (by simp [results, Try.results21, go_sem]) rfl ?_
  exact ⟨⟨_, _, rfl, o2.mono hB.size⟩, hB.trans (b2.mono hB.size)⟩
set_option maxRecDepth 1000000 in
set_option maxHeartbeats 4000000 in
theorem digitsS_out (a b : List Int) (hv : vsB a b = true) (n : Int) (hn : n < 0 ∨ 400 < n) : DoesL 21 a b n [] 2 := by
  intro w v0 v1 h0 h1
  have hvv := (vsB_iff a b).1 hv
  obtain ⟨W, hW, hB, x⟩ := boxK w v0 v1 26
  have ok := okS x (h0.keep hB) (h1.keep hB) (by omega) (by omega)
  rw [hv] at ok
  have ci := inR n 0 400 W
  rw [show (decide ((0 : Int) ≤ n) && decide (n ≤ 400)) = false by rw [Bool.and_eq_false_iff, decide_eq_false_iff_not, decide_eq_false_iff_not]; omega] at ci
  have zx := x.lt
  clear hv hvv h0 h1 x hn
  go_enter Try.func21, Try.ntmps21
  go_wp2_with (go_at_call 34; refine ok.mono ?_)
  first | (rintro e W1 rfl hs) | (rintro e W1 ⟨rfl, hs⟩)
  obtain rfl := hs.out
  clear hs ok
  go_wp2_with (go_at_call 42; refine ci.mono ?_)
  first | (rintro e W2 rfl hs) | (rintro e W2 ⟨rfl, hs⟩)
  obtain rfl := hs.out
  clear hs ci
  obtain ⟨V, hV, b2, o2⟩ := emptyK W2
  go_wp2
  refine bodyPost_ret (v := .tuple #[.slice (some ⟨W2.heap.size, 0, none⟩) 0 0, .int .i64 2]) (by simp [results, Try.results21, go_sem]) rfl ?_
  exact ⟨⟨_, _, rfl, o2.mono hB.size⟩, hB.trans (b2.mono hB.size)⟩
end Go.Proofs.Ytlkbnpgembgdfaa.Sx
