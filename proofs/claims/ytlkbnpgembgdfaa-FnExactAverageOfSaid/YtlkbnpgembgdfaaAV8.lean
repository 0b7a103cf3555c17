/-
  Averages refused, by the model.
-/
import Derived.Test.YtlkbnpgembgdfaaAV6
import Derived.Test.YtlkbnpgembgdfaaAV7
import Derived.Test.YtlkbnpgembgdfaaQ2
namespace Go.Proofs.Ytlkbnpgembgdfaa.Sx
open Go Go.RowKit
set_option linter.unusedVariables false
set_option linter.unusedSimpArgs false

set_option maxRecDepth 1000000 in
set_option maxHeartbeats 16000000 in
theorem avgS_no (a b c d : List Int) (hv : (vsB a b && vsB c d) = false) (la : a.length ≤ 9223372036854775807) (lb : b.length ≤ 9223372036854775807) (lc : c.length ≤ 9223372036854775807) (ld : d.length ≤ 9223372036854775807) : Does2 31 a b c d [] [] 1 := by
  intro w v0 v1 u0 u1 h0 h1 h2 h3
  obtain ⟨s0, k0, rfl⟩ := h0.form
  obtain ⟨s1, k1, rfl⟩ := h1.form
  obtain ⟨s2, k2, rfl⟩ := h2.form
  obtain ⟨s3, k3, rfl⟩ := h3.form
  obtain ⟨W, hW, hB, x⟩ := boxK w (.slice s0 a.length k0) (.slice s1 b.length k1) 26
  obtain ⟨V, hV, hB2, y⟩ := boxK W (.slice s2 c.length k2) (.slice s3 d.length k3) 26
  obtain ⟨U, hU, hB3, r⟩ := boxK V (.slice none 0 0) (.slice none 0 0) 26
  have bV := hB.trans (hB2.mono hB.size)
  have bU := bV.trans (hB3.mono bV.size)
  have ok1 := okS ((x.keep hB2).keep hB3) (h0.keep bU) (h1.keep bU) la lb
  have ok2 := okS (y.keep hB3) (h2.keep bU) (h3.keep bU) lc ld
  have z1 : w.heap.size < W.heap.size := by rw [← hW]; simp
  have z2 : W.heap.size < V.heap.size := by rw [← hV]; simp
  have BU := Lib.hid bU
  have f0 := r.f 0
  have f1 := r.f 1
  have q0 := r.c0
  have q1 := r.c1
  have RH := Lib.hid r
  clear h0 h1 h2 h3 x y r hB hB2 hB3 bV la lb lc ld bU
  cases hv1 : vsB a b
  · rw [hv1] at ok1
    clear hv ok2 hv1
    go_enter Try.func31, Try.ntmps31
    go_wp2_with (go_at_call 34; refine ok1.mono ?_)
    first | (rintro e W1 rfl hs) | (rintro e W1 ⟨rfl, hs⟩)
    obtain rfl := hs.out
    clear hs ok1
    obtain ⟨W9, hW9, e0, e1, r9, B9⟩ := stored RH.out (.slice none 0 0) (.slice none 0 0)
    go_wp2
    try rw [hW9]
    refine bodyPost_ret (v := .tuple #[.agg #[.slice none 0 0, .slice none 0 0], .int .i64 1]) (by simp [results, Try.results31, go_sem, e0, e1]) rfl ?_
    exact ⟨⟨_, _, _, _, rfl, OwnL.nil, OwnL.nil, fun _ _ _ _ _ _ _ _ h => by cases h⟩, BU.out.trans (B9 _ (by omega))⟩
  · have hv2 : vsB c d = false := by rw [hv1] at hv; simpa using hv
    rw [hv1] at ok1
    rw [hv2] at ok2
    clear hv hv1 hv2
    go_enter Try.func31, Try.ntmps31
    go_wp2_with (go_at_call 34; refine ok1.mono ?_)
    first | (rintro e W1 rfl hs) | (rintro e W1 ⟨rfl, hs⟩)
    obtain rfl := hs.out
    clear hs ok1
    go_wp2_with (go_at_call 34; refine ok2.mono ?_)
    first | (rintro e W1 rfl hs) | (rintro e W1 ⟨rfl, hs⟩)
    obtain rfl := hs.out
    clear hs ok2
    obtain ⟨W9, hW9, e0, e1, r9, B9⟩ := stored RH.out (.slice none 0 0) (.slice none 0 0)
    go_wp2
    try rw [hW9]
    refine bodyPost_ret (v := .tuple #[.agg #[.slice none 0 0, .slice none 0 0], .int .i64 1]) (by simp [results, Try.results31, go_sem, e0, e1]) rfl ?_
    exact ⟨⟨_, _, _, _, rfl, OwnL.nil, OwnL.nil, fun _ _ _ _ _ _ _ _ h => by cases h⟩, BU.out.trans (B9 _ (by omega))⟩
end Go.Proofs.Ytlkbnpgembgdfaa.Sx
