/-
  Machines, by the code: what is told, what is taken.
-/
import Derived.Test.YteemkophifcimaaK9
import Derived.Test.YteemkophifcimaaK9b
import Derived.WalkSpells
namespace Go.Proofs.Yteemkophifcimaa.Sx
open Go Go.RowKit
set_option linter.unusedVariables false
set_option linter.unusedSimpArgs false

set_option maxRecDepth 1000000 in
set_option maxHeartbeats 8000000 in
theorem toldI (P Q R S E : Int) (w : World) (hp : posM ⟨P, Q, R, S⟩) (ho : okM P Q R S) (hE : -1 ≤ E ∧ E ≤ 1) : Calls Try.prog 81 #[.agg #[.int .i64 P, .int .i64 Q, .int .i64 R, .int .i64 S], .int .i8 E] w fun e w' => e = .returned (.agg #[.bool true, .int .i8 E, .int .i64 (red (nxT ⟨P, Q, R, S⟩ E)).A, .int .i64 (red (nxT ⟨P, Q, R, S⟩ E)).B, .int .i64 (red (nxT ⟨P, Q, R, S⟩ E)).C, .int .i64 (red (nxT ⟨P, Q, R, S⟩ E)).D]) ∧ Below w.heap.size w w' := by
  obtain ⟨o0, o1, o2, o3⟩ := ho
  have m1 := mulE hE o2
  have m2 := mulE hE o3
  unfold nxT
  simp only
  obtain ⟨er, her⟩ : ∃ x, E * R = x := ⟨_, rfl⟩
  obtain ⟨es, hes⟩ : ∃ x, E * S = x := ⟨_, rfl⟩
  rw [her] at m1
  rw [hes] at m2
  have e0 : IntKind.i64.wrap E = E := by rw [IntKind.wrap_i64]; omega
  have e1 : IntKind.i64.wrap (E * R) = er := by rw [her, IntKind.wrap_i64]; omega
  have e2 : IntKind.i64.wrap (2 * P) = 2 * P := by rw [IntKind.wrap_i64]; omega
  have e3 : IntKind.i64.wrap (2 * P - er) = 2 * P - er := by rw [IntKind.wrap_i64]; omega
  have e4 : IntKind.i64.wrap (E * S) = es := by rw [hes, IntKind.wrap_i64]; omega
  have e5 : IntKind.i64.wrap (2 * Q) = 2 * Q := by rw [IntKind.wrap_i64]; omega
  have e6 : IntKind.i64.wrap (2 * Q - es) = 2 * Q - es := by rw [IntKind.wrap_i64]; omega
  rw [her, hes]
  have hpU : posM ⟨2 * P - er, 2 * Q - es, R, S⟩ := hp
  obtain ⟨W, hW, hB, x⟩ := boxM w P Q R S
  obtain ⟨V, hV, hB2, y⟩ := boxN W #[.bool false, .int .i8 0, .int .i64 0, .int .i64 0, .int .i64 0, .int .i64 0] 60
  have y : T6 V W.heap.size _ _ _ _ _ _ := y
  have x := x.keep hB2
  obtain ⟨U, hU, hB3, u⟩ := boxM V (2 * P - er) (2 * Q - es) R S
  have bV := (hB.trans (hB2.mono hB.size)).trans (hB3.mono (Nat.le_trans hB.size hB2.size))
  have rd := reducedI (2 * P - er) (2 * Q - es) R S U hpU (by omega) (by omega) (by omega) (by omega)
  obtain ⟨A', B', C', D', hred⟩ : ∃ A' B' C' D', red ⟨2 * P - er, 2 * Q - es, R, S⟩ = ⟨A', B', C', D'⟩ := ⟨_, _, _, _, rfl⟩
  rw [hred] at rd ⊢
  obtain ⟨c0, c1, c2, c3⟩ := x.c
  obtain ⟨d0, d1, d2, d3⟩ := u.c
  have Y := Lib.hid (y.keep hB3)
  have z1 : w.heap.size ≤ W.heap.size := hB.size
  clear her hes m1 m2 o0 o1 o2 o3 hp hpU hE x y u hB hB2 hB3 hred
  simp only at rd ⊢
  go_enter Try.func81, Try.ntmps81
  go_wp2_with (go_at_call 55; refine rd.mono ?_)
  first | (rintro e W1 ⟨rfl, b1⟩; have zz := b1.size) | (rintro e W1 rfl b1; have zz := b1.size)
  try dsimp only
  have y := Y.out.keep b1
  obtain ⟨W5, hW5, y5, o5⟩ := y.all (.bool true) (.int .i8 E) (.int .i64 A') (.int .i64 B') (.int .i64 C') (.int .i64 D')
  obtain ⟨y0, y1, y2, y3, y4, y5'⟩ := y.c
  have f0 := y.f 0
  have f1 := y.f 1
  have f2 := y.f 2
  have f3 := y.f 3
  have f4 := y.f 4
  have f5 := y.f 5
  obtain ⟨g0, g1, g2, g3, g4, g5⟩ := y5.c
  have bW := Lib.hid ((bV.trans (b1.mono bV.size)).trans (o5.bel _ z1))
  clear y y5 o5 bV b1 zz rd
  go_wp2
  refine bodyPost_ret (v := .agg #[.bool true, .int .i8 E, .int .i64 A', .int .i64 B', .int .i64 C', .int .i64 D']) (by simp [results, Try.results81, go_sem, g0, g1, g2, g3, g4, g5]) rfl ?_
  exact ⟨rfl, bW.out⟩
set_option maxRecDepth 1000000 in
set_option maxHeartbeats 8000000 in
theorem takenI (P Q R S d : Int) (w : World) (hp : posM ⟨P, Q, R, S⟩) (ho : okM P Q R S) (hE : -1 ≤ d ∧ d ≤ 1) : Calls Try.prog 82 #[.agg #[.int .i64 P, .int .i64 Q, .int .i64 R, .int .i64 S], .int .i8 d] w fun e w' => e = .returned (.agg #[.bool false, .int .i8 d, .int .i64 (red (nxK ⟨P, Q, R, S⟩ d)).A, .int .i64 (red (nxK ⟨P, Q, R, S⟩ d)).B, .int .i64 (red (nxK ⟨P, Q, R, S⟩ d)).C, .int .i64 (red (nxK ⟨P, Q, R, S⟩ d)).D]) ∧ Below w.heap.size w w' := by
  obtain ⟨o0, o1, o2, o3⟩ := ho
  have hpU0 := posM_K hp hE
  have m1 := mulE hE o0
  have m2 := mulE hE o2
  rw [Int.mul_comm] at m1 m2
  unfold nxK at hpU0 ⊢
  simp only at hpU0 ⊢
  obtain ⟨pd, hpd⟩ : ∃ x, P * d = x := ⟨_, rfl⟩
  obtain ⟨rd, hrd⟩ : ∃ x, R * d = x := ⟨_, rfl⟩
  rw [hpd] at m1
  rw [hrd] at m2
  have e1 : IntKind.i64.wrap (P * d) = pd := by rw [hpd, IntKind.wrap_i64]; omega
  have e2 : IntKind.i64.wrap (2 * Q) = 2 * Q := by rw [IntKind.wrap_i64]; omega
  have e3 : IntKind.i64.wrap (pd + 2 * Q) = pd + 2 * Q := by rw [IntKind.wrap_i64]; omega
  have e4 : IntKind.i64.wrap (R * d) = rd := by rw [hrd, IntKind.wrap_i64]; omega
  have e5 : IntKind.i64.wrap (2 * S) = 2 * S := by rw [IntKind.wrap_i64]; omega
  have e6 : IntKind.i64.wrap (rd + 2 * S) = rd + 2 * S := by rw [IntKind.wrap_i64]; omega
  have e0 : IntKind.i64.wrap d = d := by rw [IntKind.wrap_i64]; omega
  rw [hpd, hrd] at hpU0 ⊢
  obtain ⟨W, hW, hB, x⟩ := boxM w P Q R S
  obtain ⟨V, hV, hB2, y⟩ := boxN W #[.bool false, .int .i8 0, .int .i64 0, .int .i64 0, .int .i64 0, .int .i64 0] 60
  have y : T6 V W.heap.size _ _ _ _ _ _ := y
  have x := x.keep hB2
  obtain ⟨U, hU, hB3, u⟩ := boxM V P (pd + 2 * Q) R (rd + 2 * S)
  have bV := (hB.trans (hB2.mono hB.size)).trans (hB3.mono (Nat.le_trans hB.size hB2.size))
  have rr := reducedI P (pd + 2 * Q) R (rd + 2 * S) U hpU0 (by omega) (by omega) (by omega) (by omega)
  obtain ⟨A', B', C', D', hred⟩ : ∃ A' B' C' D', red ⟨P, pd + 2 * Q, R, rd + 2 * S⟩ = ⟨A', B', C', D'⟩ := ⟨_, _, _, _, rfl⟩
  rw [hred] at rr ⊢
  obtain ⟨c0, c1, c2, c3⟩ := x.c
  obtain ⟨d0, d1, d2, d3⟩ := u.c
  have Y := Lib.hid (y.keep hB3)
  have z1 : w.heap.size ≤ W.heap.size := hB.size
  clear hpd hrd m1 m2 o0 o1 o2 o3 hp hpU0 hE x y u hB hB2 hB3 hred
  simp only at rr ⊢
  go_enter Try.func82, Try.ntmps82
  go_wp2_with (go_at_call 55; refine rr.mono ?_)
  first | (rintro e W1 ⟨rfl, b1⟩; have zz := b1.size) | (rintro e W1 rfl b1; have zz := b1.size)
  try dsimp only
  have y := Y.out.keep b1
  obtain ⟨W5, hW5, y5, o5⟩ := y.all (.bool false) (.int .i8 d) (.int .i64 A') (.int .i64 B') (.int .i64 C') (.int .i64 D')
  obtain ⟨y0, y1, y2, y3, y4, y5'⟩ := y.c
  have f0 := y.f 0
  have f1 := y.f 1
  have f2 := y.f 2
  have f3 := y.f 3
  have f4 := y.f 4
  have f5 := y.f 5
  obtain ⟨g0, g1, g2, g3, g4, g5⟩ := y5.c
  have bW := Lib.hid ((bV.trans (b1.mono bV.size)).trans (o5.bel _ z1))
  clear y y5 o5 bV b1 zz rr
  go_wp2
  refine bodyPost_ret (v := .agg #[.bool false, .int .i8 d, .int .i64 A', .int .i64 B', .int .i64 C', .int .i64 D']) (by simp [results, Try.results82, go_sem, g0, g1, g2, g3, g4, g5]) rfl ?_
  exact ⟨rfl, bW.out⟩
end Go.Proofs.Yteemkophifcimaa.Sx
