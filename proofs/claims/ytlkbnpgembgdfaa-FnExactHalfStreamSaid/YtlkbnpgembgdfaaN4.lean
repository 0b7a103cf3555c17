/-
  Half the value: refusals.
-/
import Derived.Test.YtlkbnpgembgdfaaN2
import Derived.Test.YtlkbnpgembgdfaaC1
namespace Go.Proofs.Ytlkbnpgembgdfaa.Sx
open Go Go.RowKit
set_option linter.unusedVariables false
set_option linter.unusedSimpArgs false

set_option maxRecDepth 1000000 in
set_option maxHeartbeats 4000000 in
theorem halfS_no (a b : List Int) (hv : vsB a b = false) (la : a.length ≤ 9223372036854775807) (lb : b.length ≤ 9223372036854775807) : Does 17 a b [] [] 1 := by
  intro w v0 v1 h0 h1 _ _
  obtain ⟨s0, k0, rfl⟩ := h0.form
  obtain ⟨s1, k1, rfl⟩ := h1.form
  obtain ⟨W, V, hW, hV, hB, x, y, zV, zW, _, _⟩ := twoBoxes w (.slice s0 a.length k0) (.slice s1 b.length k1)
  have ok := okS x (h0.keep hB) (h1.keep hB) la lb
  rw [hv] at ok
  have q0 := y.c0
  have q1 := y.c1
  have f0 := y.f 0
  have f1 := y.f 1
  have Y := Lib.hid y
  clear hv h0 h1 x y
  go_enter Try.func17, Try.ntmps17
  go_wp2_with (go_at_call 34; refine ok.mono ?_)
  first | (rintro e W1 rfl hs) | (rintro e W1 ⟨rfl, hs⟩)
  obtain rfl := hs.out
  clear hs ok
  go_wp2
  obtain ⟨W9, hW9, e0, e1, r9, B9⟩ := stored Y.out (.slice none 0 0) (.slice none 0 0)
  rw [hW9]
  refine bodyPost_ret (v := .tuple #[.agg #[.slice none 0 0, .slice none 0 0], .int .i64 1]) (by simp [results, Try.results17, go_sem, e0, e1]) rfl ?_
  exact ⟨⟨_, _, _, _, rfl, OwnL.nil, OwnL.nil, fun _ _ _ _ _ _ _ _ h => by cases h⟩, hB.trans (B9 _ (by omega))⟩
set_option maxRecDepth 1000000 in
set_option maxHeartbeats 4000000 in
theorem halfS_16 (a b : List Int) (hv : vsB a b = true) (h16 : a.length = 16) : Does 17 a b [] [] 3 := by
  intro w v0 v1 h0 h1 _ _
  have hvv := (vsB_iff a b).1 hv
  have la : a.length ≤ 9223372036854775807 := by omega
  have lb : b.length ≤ 9223372036854775807 := by omega
  obtain ⟨s0, k0, rfl⟩ := h0.form
  obtain ⟨s1, k1, rfl⟩ := h1.form
  obtain ⟨W, V, hW, hV, hB, x, y, zV, zW, _, _⟩ := twoBoxes w (.slice s0 a.length k0) (.slice s1 b.length k1)
  have ok := okS x (h0.keep hB) (h1.keep hB) la lb
  rw [hv] at ok
  have hlB2 : ∀ (s : Option Addr) (n k : Nat) (W : World), (Builtin.len_ #[22] 3 #[.slice s n k]).run Try.prog W = .ok (.int .i64 n) W := fun s n k W => rfl
  have h16' : ((a.length : Int) == 16) = true := by rw [beq_iff_eq]; omega
  have c0 := x.c0
  have q0 := y.c0
  have q1 := y.c1
  have f0 := y.f 0
  have f1 := y.f 1
  have Y := Lib.hid y
  clear hv hvv h16 la lb h0 h1 x y
  go_enter Try.func17, Try.ntmps17
  go_wp2_with (go_at_call 34; refine ok.mono ?_)
  first | (rintro e W1 rfl hs) | (rintro e W1 ⟨rfl, hs⟩)
  obtain rfl := hs.out
  clear hs ok
  go_wp2
  obtain ⟨W9, hW9, e0, e1, r9, B9⟩ := stored Y.out (.slice none 0 0) (.slice none 0 0)
  rw [hW9]
  refine bodyPost_ret (v := .tuple #[.agg #[.slice none 0 0, .slice none 0 0], .int .i64 3]) (by simp [results, Try.results17, go_sem, e0, e1]) rfl ?_
  exact ⟨⟨_, _, _, _, rfl, OwnL.nil, OwnL.nil, fun _ _ _ _ _ _ _ _ h => by cases h⟩, hB.trans (B9 _ (by omega))⟩
set_option maxRecDepth 1000000 in
set_option maxHeartbeats 4000000 in
theorem halfI_no (a b : List Int) (hv : vsB a b = false) (la : a.length ≤ 9223372036854775807) (lb : b.length ≤ 9223372036854775807) : Does 18 a b [] [] 1 := by
  intro w v0 v1 h0 h1 _ _
  obtain ⟨s0, k0, rfl⟩ := h0.form
  obtain ⟨s1, k1, rfl⟩ := h1.form
  obtain ⟨W, V, hW, hV, hB, x, y, zV, zW, _, _⟩ := twoBoxes w (.slice s0 a.length k0) (.slice s1 b.length k1)
  have ok := vsI (h0.keep hB) (h1.keep hB) la lb
  rw [hv] at ok
  have c0 := x.c0
  have c1 := x.c1
  clear hv h0 h1 x
  go_enter Try.func18, Try.ntmps18
  go_wp2_with (go_at_call 37; refine ok.mono ?_)
  first | (rintro e W1 rfl b1) | (rintro e W1 ⟨rfl, b1⟩)
  have Y := y.keep b1
  have q0 := Y.c0
  have q1 := Y.c1
  have f0 := Y.f 0
  have f1 := Y.f 1
  go_wp2
  obtain ⟨W9, hW9, e0, e1, r9, B9⟩ := stored Y (.slice none 0 0) (.slice none 0 0)
  rw [hW9]
  refine bodyPost_ret (v := .tuple #[.agg #[.slice none 0 0, .slice none 0 0], .int .i64 1]) (by simp [results, Try.results18, go_sem, e0, e1]) rfl ?_
  exact ⟨⟨_, _, _, _, rfl, OwnL.nil, OwnL.nil, fun _ _ _ _ _ _ _ _ h => by cases h⟩, (hB.trans (b1.mono hB.size)).trans (B9 _ (by omega))⟩
set_option maxRecDepth 1000000 in
set_option maxHeartbeats 4000000 in
theorem halfI_16 (a b : List Int) (hv : vsB a b = true) (h16 : a.length = 16) : Does 18 a b [] [] 3 := by
  intro w v0 v1 h0 h1 _ _
  have hvv := (vsB_iff a b).1 hv
  have la : a.length ≤ 9223372036854775807 := by omega
  have lb : b.length ≤ 9223372036854775807 := by omega
  obtain ⟨s0, k0, rfl⟩ := h0.form
  obtain ⟨s1, k1, rfl⟩ := h1.form
  obtain ⟨W, V, hW, hV, hB, x, y, zV, zW, _, _⟩ := twoBoxes w (.slice s0 a.length k0) (.slice s1 b.length k1)
  have ok := vsI (h0.keep hB) (h1.keep hB) la lb
  rw [hv] at ok
  have hlB2 : ∀ (s : Option Addr) (n k : Nat) (W : World), (Builtin.len_ #[22] 3 #[.slice s n k]).run Try.prog W = .ok (.int .i64 n) W := fun s n k W => rfl
  have h16' : ((a.length : Int) == 16) = true := by rw [beq_iff_eq]; omega
  have c0 := x.c0
  have c1 := x.c1
  have X := Lib.hid x
  clear hv hvv h16 la lb h0 h1 x
  go_enter Try.func18, Try.ntmps18
  go_wp2_with (go_at_call 37; refine ok.mono ?_)
  first | (rintro e W1 rfl b1) | (rintro e W1 ⟨rfl, b1⟩)
  have c0 := (show Bk _ _ _ _ _ from X.out.keep b1).c0
  have Y := y.keep b1
  have q0 := Y.c0
  have q1 := Y.c1
  have f0 := Y.f 0
  have f1 := Y.f 1
  go_wp2
  obtain ⟨W9, hW9, e0, e1, r9, B9⟩ := stored Y (.slice none 0 0) (.slice none 0 0)
  rw [hW9]
  refine bodyPost_ret (v := .tuple #[.agg #[.slice none 0 0, .slice none 0 0], .int .i64 3]) (by simp [results, Try.results18, go_sem, e0, e1]) rfl ?_
  exact ⟨⟨_, _, _, _, rfl, OwnL.nil, OwnL.nil, fun _ _ _ _ _ _ _ _ h => by cases h⟩, (hB.trans (b1.mono hB.size)).trans (B9 _ (by omega))⟩
end Go.Proofs.Ytlkbnpgembgdfaa.Sx
