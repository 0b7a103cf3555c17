/-
  Averages refused, by the code.
-/
import Derived.Test.YtlkbnpgembgdfaaAV6
namespace Go.Proofs.Ytlkbnpgembgdfaa.Sx
open Go Go.RowKit
set_option linter.unusedVariables false
set_option linter.unusedSimpArgs false

set_option maxRecDepth 1000000 in
set_option maxHeartbeats 16000000 in
theorem avgI_no (a b c d : List Int) (hv : (vsB a b && vsB c d) = false) (la : a.length ≤ 9223372036854775807) (lb : b.length ≤ 9223372036854775807) (lc : c.length ≤ 9223372036854775807) (ld : d.length ≤ 9223372036854775807) : Does2 32 a b c d [] [] 1 := by
  intro w v0 v1 u0 u1 h0 h1 h2 h3
  obtain ⟨s0, k0, rfl⟩ := h0.form
  obtain ⟨s1, k1, rfl⟩ := h1.form
  obtain ⟨s2, k2, rfl⟩ := h2.form
  obtain ⟨s3, k3, rfl⟩ := h3.form
  obtain ⟨W, hW, hB, x⟩ := boxK w (.slice s0 a.length k0) (.slice s1 b.length k1) 26
  obtain ⟨V, hV, hB2, y⟩ := boxK W (.slice s2 c.length k2) (.slice s3 d.length k3) 26
  obtain ⟨U, hU, hB3, r⟩ := boxK V (.slice none 0 0) (.slice none 0 0) 26
  have bV := hB.trans (hB2.mono hB.size)
  have bU := bV.trans (hB3.mono bV.size)
  have T := Two.mk (a := a) (b := b) (c := c) (d := d) ((x.keep hB2).keep hB3) (y.keep hB3) (h0.keep bU) (h1.keep bU) (h2.keep bU) (h3.keep bU)
  have ok1 := vsI T.ia T.ib (by omega) (by omega)
  have z1 : w.heap.size < W.heap.size := by rw [← hW]; simp
  have z2 : W.heap.size < V.heap.size := by rw [← hV]; simp
  have z3 : V.heap.size < U.heap.size := by rw [← hU]; simp
  have p0 := T.s.c0
  have p1 := T.s.c1
  have ok2 := Lib.hid fun W' hb => (show Calls Try.prog 37 #[.agg #[.slice s2 c.length k2, .slice s3 d.length k3]] W' fun e w' => e = .returned (.bool (vsB c d)) ∧ Below W'.heap.size W' w' by
    exact vsI (T.ic.keep hb) (T.id.keep hb) (by omega) (by omega))
  have TT := Lib.hid (fun W' hb => T.keep (w' := W') hb)
  have RR := Lib.hid (fun W' hb => r.keep (w' := W') hb)
  have BU := Lib.hid bU
  clear h0 h1 h2 h3 T x y r hB hB2 hB3 bV la lb lc ld bU
  cases hv1 : vsB a b
  · rw [hv1] at ok1
    clear hv ok2 hv1
    go_enter Try.func32, Try.ntmps32
    go_wp2_with (go_at_call 37; refine ok1.mono ?_)
    first | (rintro e W1 rfl b1) | (rintro e W1 ⟨rfl, b1⟩)
    have r7 := RR.out _ b1
    have f0 := r7.f 0
    have f1 := r7.f 1
    have q0 := r7.c0
    have q1 := r7.c1
    obtain ⟨W9, hW9, e0, e1, r9, B9⟩ := stored r7 (.slice none 0 0) (.slice none 0 0)
    clear ok1
    go_wp2
    try rw [hW9]
    refine bodyPost_ret (v := .tuple #[.agg #[.slice none 0 0, .slice none 0 0], .int .i64 1]) (by simp [results, Try.results32, go_sem, e0, e1]) rfl ?_
    exact ⟨⟨_, _, _, _, rfl, OwnL.nil, OwnL.nil, fun _ _ _ _ _ _ _ _ h => by cases h⟩, (BU.out.trans (b1.mono BU.out.size)).trans (B9 _ (by omega))⟩
  · have hv2 : vsB c d = false := by rw [hv1] at hv; simpa using hv
    rw [hv1] at ok1
    rw [hv2] at ok2
    clear hv hv1 hv2
    go_enter Try.func32, Try.ntmps32
    go_wp2_with (go_at_call 37; refine ok1.mono ?_)
    first | (rintro e W1 rfl b1) | (rintro e W1 ⟨rfl, b1⟩)
    have T1 := TT.out _ b1
    have q0 := T1.t.c0
    have q1 := T1.t.c1
    have o2 := ok2.out _ b1
    clear ok1 T1
    go_wp2_with (go_at_call 37; refine o2.mono ?_)
    first | (rintro e W2 rfl b2) | (rintro e W2 ⟨rfl, b2⟩)
    have b2 := b1.trans (b2.mono b1.size)
    have r7 := RR.out _ b2
    have f0 := r7.f 0
    have f1 := r7.f 1
    have q0 := r7.c0
    have q1 := r7.c1
    obtain ⟨W9, hW9, e0, e1, r9, B9⟩ := stored r7 (.slice none 0 0) (.slice none 0 0)
    clear o2 b1 ok2
    go_wp2
    try rw [hW9]
    refine bodyPost_ret (v := .tuple #[.agg #[.slice none 0 0, .slice none 0 0], .int .i64 1]) (by simp [results, Try.results32, go_sem, e0, e1]) rfl ?_
    exact ⟨⟨_, _, _, _, rfl, OwnL.nil, OwnL.nil, fun _ _ _ _ _ _ _ _ h => by cases h⟩, (BU.out.trans (b2.mono BU.out.size)).trans (B9 _ (by omega))⟩
end Go.Proofs.Ytlkbnpgembgdfaa.Sx
