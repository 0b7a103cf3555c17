/-
  The normal stream: both programs.
-/
import Derived.Test.YtlkbnpgembgdfaaQ2
namespace Go.Proofs.Ytlkbnpgembgdfaa.Sx
open Go Go.RowKit Go.Lib
set_option linter.unusedVariables false
set_option linter.unusedSimpArgs false

theorem least (P : Nat → Prop) : ∀ n, P n → ∃ m, P m ∧ ∀ k, k < m → ¬ P k := fun n => Nat.strongRecOn n fun n ih hn => by
  by_cases h : ∃ k, k < n ∧ P k
  · obtain ⟨k, hk, hp⟩ := h
    exact ih k hk hp
  · exact ⟨n, hn, fun k hk hp => h ⟨k, hk, hp⟩⟩
theorem per_exists {l : List Int} (h : 1 ≤ l.length) : ∃ p, Per l p := by
  obtain ⟨m, ⟨h1, h2, h3⟩, h4⟩ := least (fun q => 1 ≤ q ∧ q ≤ l.length ∧ (q < l.length → OkP l q)) l.length ⟨h, Nat.le_refl _, fun e => absurd e (Nat.lt_irrefl _)⟩
  exact ⟨m, h1, h2, h3, fun q hq1 hq2 hok => h4 q hq2 ⟨hq1, by omega, fun _ => hok⟩⟩
set_option maxRecDepth 1000000 in
set_option maxHeartbeats 4000000 in
theorem normS_yes (a b : List Int) (p : Nat) (hv : vsB a b = true) (hp : Per b p) : Does 19 a b ((a ++ b).take (dn (a ++ b) p a.length)) (((a ++ b).drop (dn (a ++ b) p a.length)).take p) 0 := by
  intro w v0 v1 h0 h1 n0 n1
  have hvv := (vsB_iff a b).1 hv
  obtain ⟨p0, k0, rfl⟩ := h0.pform n0
  obtain ⟨p1, k1, rfl⟩ := h1.pform n1
  obtain ⟨W, V, hW, hV, hB, x, y, zV, zW, _, _⟩ := twoBoxes w (.slice (some p0) a.length k0) (.slice (some p1) b.length k1)
  have i0 := h0.keep hB
  have i1 := h1.keep hB
  have ok := okS x i0 i1 (by omega) (by omega)
  rw [hv] at ok
  have nS := normalS a b (by omega) (by omega) (by omega) p hp V _ _ i0 i1 n0 n1
  have hk := dn_le (a ++ b) p a.length
  have hpb := hp.2.1
  have e1 : ((a ++ b).take (dn (a ++ b) p a.length)).length = dn (a ++ b) p a.length := by rw [List.length_take, List.length_append]; omega
  have e2 : (((a ++ b).drop (dn (a ++ b) p a.length)).take p).length = p := by rw [List.length_take, List.length_drop, List.length_append]; omega
  have E1 := Lib.hid e1
  have E2 := Lib.hid e2
  obtain ⟨k, hkk⟩ : ∃ k, dn (a ++ b) p a.length = k := ⟨_, rfl⟩
  rw [hkk] at nS E1 E2 ⊢
  generalize (a ++ b).take k = X at nS E1 ⊢
  generalize ((a ++ b).drop k).take p = X2 at nS E2 ⊢
  have c0 := x.c0
  have c1 := x.c1
  have Y := Lib.hid y
  have NS := Lib.hid nS
  clear hv hvv h0 h1 x y n0 n1 hkk hk e1 e2 nS hp hpb i0 i1
  go_enter Try.func19, Try.ntmps19
  go_wp2_with (go_at_call 34; refine ok.mono ?_)
  first | (rintro e W1 rfl hs) | (rintro e W1 ⟨rfl, hs⟩)
  obtain rfl := hs.out
  clear hs ok
  go_wp2_with (go_at_call 40; refine NS.out.mono ?_)
  rintro e W3 ⟨s0, cc0, s1, cc1, rfl, b3, o3⟩
  have y3 := (show Bk W1 _ _ _ _ from Y.out).keep b3
  have q0 := y3.c0
  have q1 := y3.c1
  have f0 := y3.f 0
  have f1 := y3.f 1
  go_wp2
  obtain ⟨W9, hW9, e0, e1, r9, B9⟩ := stored y3 (.slice s0 k cc0) (.slice s1 p cc1)
  rw [hW9]
  refine bodyPost_ret (v := .tuple #[.agg #[.slice s0 k cc0, .slice s1 p cc1], .int .i64 0]) (by simp [results, Try.results19, go_sem, e0, e1]) rfl ?_
  refine ⟨⟨s0, cc0, s1, cc1, by rw [E1.out, E2.out], ?_⟩, (hB.trans (b3.mono hB.size)).trans (B9 _ (by omega))⟩
  rw [E1.out, E2.out]
  exact ⟨(o3.o0.rest zV r9).mono hB.size, (o3.o1.rest zV r9).mono hB.size, o3.apart⟩
set_option maxRecDepth 1000000 in
set_option maxHeartbeats 4000000 in
theorem normI_yes (a b : List Int) (p : Nat) (hv : vsB a b = true) (hp : Per b p) : Does 20 a b ((a ++ b).take (dn (a ++ b) p a.length)) (((a ++ b).drop (dn (a ++ b) p a.length)).take p) 0 := by
  intro w v0 v1 h0 h1 n0 n1
  have hvv := (vsB_iff a b).1 hv
  obtain ⟨p0, k0, rfl⟩ := h0.pform n0
  obtain ⟨p1, k1, rfl⟩ := h1.pform n1
  obtain ⟨W, V, hW, hV, hB, x, y, zV, zW, _, _⟩ := twoBoxes w (.slice (some p0) a.length k0) (.slice (some p1) b.length k1)
  have i0 := h0.keep hB
  have i1 := h1.keep hB
  have ok := vsI i0 i1 (by omega) (by omega)
  rw [hv] at ok
  have nS : ∀ W', Below V.heap.size V W' → _ := fun W' hb => normalI a b (by omega) (by omega) (by omega) p hp W' _ _ (i0.keep hb) (i1.keep hb) n0 n1
  have hk := dn_le (a ++ b) p a.length
  have hpb := hp.2.1
  have e1 : ((a ++ b).take (dn (a ++ b) p a.length)).length = dn (a ++ b) p a.length := by rw [List.length_take, List.length_append]; omega
  have e2 : (((a ++ b).drop (dn (a ++ b) p a.length)).take p).length = p := by rw [List.length_take, List.length_drop, List.length_append]; omega
  have E1 := Lib.hid e1
  have E2 := Lib.hid e2
  obtain ⟨k, hkk⟩ : ∃ k, dn (a ++ b) p a.length = k := ⟨_, rfl⟩
  rw [hkk] at E1 E2 ⊢
  simp only [hkk] at nS
  generalize (a ++ b).take k = X at nS E1 ⊢
  generalize ((a ++ b).drop k).take p = X2 at nS E2 ⊢
  have c0 := x.c0
  have c1 := x.c1
  have HX := Lib.hid x
  have Y := Lib.hid y
  have NS := Lib.hid nS
  clear hv hvv h0 h1 x y n0 n1 hkk hk e1 e2 nS hp hpb i0 i1
  go_enter Try.func20, Try.ntmps20
  go_wp2_with (go_at_call 37; refine ok.mono ?_)
  first | (rintro e W1 rfl b1) | (rintro e W1 ⟨rfl, b1⟩)
  have x := (show Bk V _ _ _ _ from HX.out).keep b1
  have c0 := x.c0
  have c1 := x.c1
  have ns := NS.out _ b1
  have hB1 := hB.trans (b1.mono hB.size)
  have y1 := (show Bk V _ _ _ _ from Y.out).keep b1
  have zW1 := y1.lt
  have Y1 := Lib.hid y1
  clear ok x y1 hW hV
  go_wp2_with (go_at_call 41; refine ns.mono ?_)
  rintro e W3 ⟨bb, rfl, b3, o3⟩
  have y3 := (show Bk W1 _ _ _ _ from Y1.out).keep b3
  have q0 := y3.c0
  have q1 := y3.c1
  have f0 := y3.f 0
  have f1 := y3.f 1
  go_wp2
  obtain ⟨W9, hW9, e0, e1, r9, B9⟩ := stored y3 (.slice (some ⟨bb, 0, none⟩) k k) (.slice (some ⟨bb, k, none⟩) p p)
  rw [hW9]
  refine bodyPost_ret (v := .tuple #[.agg #[.slice (some ⟨bb, 0, none⟩) k k, .slice (some ⟨bb, k, none⟩) p p], .int .i64 0]) (by simp [results, Try.results20, go_sem, e0, e1]) rfl ?_
  refine ⟨⟨_, _, _, _, by rw [E1.out, E2.out], ?_⟩, (hB1.trans (b3.mono hB1.size)).trans (B9 _ (by omega))⟩
  rw [E1.out, E2.out]
  exact ⟨(o3.o0.rest zW1 r9).mono hB1.size, (o3.o1.rest zW1 r9).mono hB1.size, o3.apart⟩
set_option maxRecDepth 1000000 in
set_option maxHeartbeats 4000000 in
theorem normS_no (a b : List Int) (hv : vsB a b = false) (la : a.length ≤ 9223372036854775807) (lb : b.length ≤ 9223372036854775807) : Does 19 a b [] [] 1 := by
  intro w v0 v1 h0 h1 _ _
  obtain ⟨s0, k0, rfl⟩ := h0.form
  obtain ⟨s1, k1, rfl⟩ := h1.form
  obtain ⟨W, V, hW, hV, hB, x, y, zV, zW, _, _⟩ := twoBoxes w (.slice s0 a.length k0) (.slice s1 b.length k1)
  have ok := okS x (h0.keep hB) (h1.keep hB) la lb
  rw [hv] at ok
  have q0 := y.c0
  have q1 := y.c1
  have f0 := y.f 0
  have f1 := y.f 1
  have Y := Lib.hid y
  clear hv h0 h1 x y
  go_enter Try.func19, Try.ntmps19
  go_wp2_with (go_at_call 34; refine ok.mono ?_)
  first | (rintro e W1 rfl hs) | (rintro e W1 ⟨rfl, hs⟩)
  obtain rfl := hs.out
  clear hs ok
  go_wp2
  obtain ⟨W9, hW9, e0, e1, r9, B9⟩ := stored Y.out (.slice none 0 0) (.slice none 0 0)
  rw [hW9]
  refine bodyPost_ret (v := .tuple #[.agg #[.slice none 0 0, .slice none 0 0], .int .i64 1]) (by simp [results, Try.results19, go_sem, e0, e1]) rfl ?_
  exact ⟨⟨_, _, _, _, rfl, OwnL.nil, OwnL.nil, fun _ _ _ _ _ _ _ _ h => by cases h⟩, hB.trans (B9 _ (by omega))⟩
set_option maxRecDepth 1000000 in
set_option maxHeartbeats 4000000 in
theorem normI_no (a b : List Int) (hv : vsB a b = false) (la : a.length ≤ 9223372036854775807) (lb : b.length ≤ 9223372036854775807) : Does 20 a b [] [] 1 := by
  intro w v0 v1 h0 h1 _ _
  obtain ⟨s0, k0, rfl⟩ := h0.form
  obtain ⟨s1, k1, rfl⟩ := h1.form
  obtain ⟨W, V, hW, hV, hB, x, y, zV, zW, _, _⟩ := twoBoxes w (.slice s0 a.length k0) (.slice s1 b.length k1)
  have ok := vsI (h0.keep hB) (h1.keep hB) la lb
  rw [hv] at ok
  have c0 := x.c0
  have c1 := x.c1
  clear hv h0 h1 x
  go_enter Try.func20, Try.ntmps20
  go_wp2_with (go_at_call 37; refine ok.mono ?_)
  first | (rintro e W1 rfl b1) | (rintro e W1 ⟨rfl, b1⟩)
  have Y := y.keep b1
  have q0 := Y.c0
  have q1 := Y.c1
  have f0 := Y.f 0
  have f1 := Y.f 1
  go_wp2
  obtain ⟨W9, hW9, e0, e1, r9, B9⟩ := stored Y (.slice none 0 0) (.slice none 0 0)
  rw [hW9]
  refine bodyPost_ret (v := .tuple #[.agg #[.slice none 0 0, .slice none 0 0], .int .i64 1]) (by simp [results, Try.results20, go_sem, e0, e1]) rfl ?_
  exact ⟨⟨_, _, _, _, rfl, OwnL.nil, OwnL.nil, fun _ _ _ _ _ _ _ _ h => by cases h⟩, (hB.trans (b1.mono hB.size)).trans (B9 _ (by omega))⟩
end Go.Proofs.Ytlkbnpgembgdfaa.Sx
