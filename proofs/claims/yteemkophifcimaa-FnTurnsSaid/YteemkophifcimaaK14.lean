/-
  The turns of a machine, by the code: what is returned.
-/
import Derived.Test.YteemkophifcimaaK13
import Derived.WalkSpells
import Derived.Deep.DeepCutAuto
namespace Go.Proofs.Yteemkophifcimaa.Sx
open Go Go.RowKit
set_option linter.unusedVariables false
set_option linter.unusedSimpArgs false

/-- A value that is given, told from an older world. -/
structure ValZ (Z W' WA : World) (v : Value) (e : Ending) : Prop where
  mk ::
  eq : e = .returned v
  pre : Below W'.heap.size W' WA
  all : Below Z.heap.size Z WA
/-- What takes digits is made, told from an older world. -/
structure TakZ (Z W' WB : World) (a b : List Int) (v0 v1 : Value) (e : Ending) : Prop where
  mk ::
  here : ∃ ns nt np, e = .returned (.func (.func 83) #[] #[.pointer (some ⟨nt, 0, none⟩), .pointer (some ⟨ns, 0, none⟩), .pointer (some ⟨np, 0, none⟩)]) ∧ Tk WB ns nt np a b v0 v1 0 ∧ Z.heap.size ≤ nt ∧ Z.heap.size ≤ np
  pre : Below W'.heap.size W' WB
  all : Below Z.heap.size Z WB
/-- Turns are given, told from an older world. -/
structure RunZ (Z WC : World) (xs : List Value) (n : Nat) (c : Int) (e : Ending) : Prop where
  mk ::
  here : ∃ s k, e = .returned (.tuple #[.slice s n k, .int .i64 c]) ∧ WC.ownsRow Z.heap.size 60 6 (.slice s n k) n xs
  all : Below Z.heap.size Z WC
theorem row_base {w : World} {B B' n s : Nat} {e : TypeId} {v : Value} {xs : List Value} (h : w.ownsRow B e s v n xs) (hB : B' ≤ B) : w.ownsRow B' e s v n xs := by
  obtain ⟨k1, k2 | ⟨g, cap, cur, k2, k3, k4, k5⟩⟩ := h
  · exact ⟨k1, .inl k2⟩
  · exact ⟨k1, .inr ⟨g, cap, cur, k2, Nat.le_trans hB k3, k4, k5⟩⟩
set_option maxRecDepth 1000000 in
set_option maxHeartbeats 16000000 in
theorem turnsI_yes (A B C D n : Int) (a b : List Int) (hz : askC A B C D a b n = 0) (J L : Nat) (c : Int) (hSt : ∀ i, i < J → OkAt a b ⟨A, B, C, D⟩ n.toNat i) (hJ : J ≤ n.toNat + 400) (hE : EndM a b ⟨A, B, C, D⟩ n.toNat J L c) : DoesT 23 A B C D a b n (trL a b ⟨A, B, C, D⟩ L) L c := by
  intro w v0 v1 i0 i1 l0 l1
  obtain ⟨q1, q2, q3, q4⟩ := askC_ok hz
  obtain ⟨⟨o0, o1, o2, o3⟩, hp⟩ := vmB_ok q1
  have hv := (vsB_iff a b).1 q2
  have hd : ∀ k, -1 ≤ dg a b k ∧ dg a b k ≤ 1 := dgs1 q2
  obtain ⟨m, rfl⟩ : ∃ m : Nat, n = m := ⟨n.toNat, by omega⟩
  simp only [Int.toNat_natCast] at hSt hJ hE
  obtain ⟨W, hW, hB, x⟩ := boxM w A B C D
  obtain ⟨V, hV, hB2, y⟩ := boxK W v0 v1 26
  have x := x.keep hB2
  have bV := hB.trans (hB2.mono hB.size)
  have vm := validMI A B C D V (by omega)
  rw [q1] at vm
  have VS := Lib.hid fun W' (hb : Below V.heap.size V W') => vsI ((i0.keep bV).keep hb) ((i1.keep bV).keep hb) (by omega) (by omega)
  rw [q2] at VS
  have LI := Lib.hid fun W' => liesI A B C D (-2) 2 W' (by unfold okM; omega) (by omega) (by omega)
  rw [q4] at LI
  obtain ⟨c0, c1, c2, c3⟩ := x.c
  have g1 := decide_eq_false (show ¬ (m : Int) < 0 by omega)
  have g2 := decide_eq_false (show ¬ (60 : Int) < (m : Int) by omega)
  obtain ⟨A0, B0, C0, D0, hred⟩ : ∃ A' B' C' D', red ⟨A, B, C, D⟩ = ⟨A', B', C', D'⟩ := ⟨_, _, _, _, rfl⟩
  have hok := red_okM hp o0 o1 o2 o3
  rw [hred] at hok
  have RD := Lib.hid fun (Z : World) => (show ∀ W', Below Z.heap.size Z W' → Calls Try.prog 55 #[.agg #[.int .i64 A, .int .i64 B, .int .i64 C, .int .i64 D]] W' fun e WA => ValZ Z W' WA (.agg #[.int .i64 A0, .int .i64 B0, .int .i64 C0, .int .i64 D0]) e from fun W' hb => (reducedI A B C D W' hp (by omega) (by omega) (by omega) (by omega)).mono fun e WA h => ⟨by rw [h.1, hred], h.2, hb.trans (h.2.mono hb.size)⟩)
  have TB := Lib.hid fun (Z : World) (hZ : Below w.heap.size w Z) => (show ∀ W', Below Z.heap.size Z W' → Calls Try.prog 57 #[.agg #[v0, v1]] W' fun e WB => TakZ Z W' WB a b v0 v1 e from fun W' hb => (takerI ((i0.keep hZ).keep hb) ((i1.keep hZ).keep hb) hv.2.1).mono fun e WB h => by
    obtain ⟨⟨ns, nt, np, h1, h2, h3, h4⟩, h5⟩ := h
    exact ⟨⟨ns, nt, np, h1, h2, Nat.le_trans hb.size h3, Nat.le_trans hb.size h4⟩, h5, hb.trans (h5.mono hb.size)⟩)
  have RU := Lib.hid fun (Z : World) (hZ : Below w.heap.size w Z) => (show ∀ W' ns nt np, Below Z.heap.size Z W' → Tk W' ns nt np a b v0 v1 0 → Z.heap.size ≤ nt → Z.heap.size ≤ np → Calls Try.prog 56 #[.agg #[.int .i64 A0, .int .i64 B0, .int .i64 C0, .int .i64 D0], .int .i64 m, .func (.func 83) #[] #[.pointer (some ⟨nt, 0, none⟩), .pointer (some ⟨ns, 0, none⟩), .pointer (some ⟨np, 0, none⟩)]] W' fun e WC => RunZ Z WC (trL a b ⟨A, B, C, D⟩ L) L c e from fun W' ns nt np hb tk h1 h2 => (runI (m := Z.heap.size) hred tk ⟨h1, h2⟩ (fun q hq => Nat.lt_of_lt_of_le (l0 q hq) hZ.size) (fun q hq => Nat.lt_of_lt_of_le (l1 q hq) hZ.size) hp hok hv.1 ⟨hv.2.1, hv.2.2.1⟩ hd (by omega) hSt hJ hE).mono fun e WC h => by
    obtain ⟨⟨s, k, h3, h4⟩, h5⟩ := h
    exact ⟨⟨s, k, h3, row_base h4 hb.size⟩, hb.trans h5⟩)
  have HX := Lib.hid x
  have HY := Lib.hid y
  have HB := Lib.hid bV
  clear hz x y i0 i1 l0 l1 hB hB2 hSt hJ hE q1 q2 q3 q4 o0 o1 o2 o3 hp hv hd hred hok bV
  go_enter Try.func23, Try.ntmps23
  go_wp2_with (go_at_call 53; refine vm.mono ?_)
  first | (rintro e W1 ⟨rfl, b1⟩; have zz := b1.size) | (rintro e W1 rfl b1; have zz := b1.size)
  try dsimp only
  have vs := VS.out _ b1
  have d0 := (HY.out.keep b1).c0
  have d1 := (HY.out.keep b1).c1
  clear zz vm
  go_wp2_with (go_at_call 42; refine vs.mono ?_)
  first | (rintro e W2 ⟨rfl, b2⟩; have zz := b2.size) | (rintro e W2 rfl b2; have zz := b2.size)
  try dsimp only
  have b2 := b1.trans (b2.mono b1.size)
  have li := LI.out W2
  obtain ⟨c0, c1, c2, c3⟩ := (HX.out.keep b2).c
  clear zz b1 vs d0 d1
  go_wp2_with (go_at_call 54; refine li.mono ?_)
  first | (rintro e Z ⟨rfl, b3⟩; have zz := b3.size) | (rintro e Z rfl b3; have zz := b3.size)
  try dsimp only
  have b3 := b2.trans (b3.mono b2.size)
  have x3 := HX.out.keep b3
  have y3 := HY.out.keep b3
  have bw3 := HB.out.trans (b3.mono HB.out.size)
  have TA := Lib.hid (RD.out Z)
  have TK := Lib.hid (TB.out Z bw3)
  have RN := Lib.hid (RU.out Z bw3)
  have HB3 := Lib.hid bw3
  have KP := Lib.hid (show ∀ w', Below Z.heap.size Z w' → (w'.cell? ⟨w.heap.size, 0, none⟩ = some (.int .i64 A) ∧ w'.cell? ⟨w.heap.size, 1, none⟩ = some (.int .i64 B) ∧ w'.cell? ⟨w.heap.size, 2, none⟩ = some (.int .i64 C) ∧ w'.cell? ⟨w.heap.size, 3, none⟩ = some (.int .i64 D)) ∧ (w'.cell? ⟨W.heap.size, 0, none⟩ = some v0 ∧ w'.cell? ⟨W.heap.size, 1, none⟩ = some v1) ∧ Below Z.heap.size Z w' from fun w' h => ⟨(x3.keep h).c, ⟨(y3.keep h).c0, (y3.keep h).c1⟩, h⟩)
  clear zz li RD TB RU x3 y3 bw3 b2 b3 VS LI HX HY HB c0 c1 c2 c3
  go_wp2
  go_region_held3 (fun w' => (w'.cell? ⟨w.heap.size, 0, none⟩ = some (.int .i64 A) ∧ w'.cell? ⟨w.heap.size, 1, none⟩ = some (.int .i64 B) ∧ w'.cell? ⟨w.heap.size, 2, none⟩ = some (.int .i64 C) ∧ w'.cell? ⟨w.heap.size, 3, none⟩ = some (.int .i64 D)) ∧ (w'.cell? ⟨W.heap.size, 0, none⟩ = some v0 ∧ w'.cell? ⟨W.heap.size, 1, none⟩ = some v1) ∧ Below Z.heap.size Z w')
    (exact KP.out _ (by first | with_reducible exact hbC | with_reducible exact hbA | with_reducible exact hbB | with_reducible exact (Below.refl _ _).drew | with_reducible exact Below.refl _ _ | fail))
    (first
      | (go_at_call 55; (with_reducible refine Calls.mono (TA.out _ ?_) ?_); (· first | with_reducible exact hbC | with_reducible exact hbA | with_reducible exact hbB | with_reducible exact (Below.refl _ _).drew | with_reducible exact Below.refl _ _ | fail); rintro e WA ⟨rfl, bA, hbA⟩)
      | (go_at_call 57; (with_reducible refine Calls.mono (TK.out _ ?_) ?_); (· first | with_reducible exact hbC | with_reducible exact hbA | with_reducible exact hbB | with_reducible exact (Below.refl _ _).drew | with_reducible exact Below.refl _ _ | fail); rintro e WB ⟨⟨ns, nt, np, rfl, tkB, ge1, ge2⟩, bB, hbB⟩)
      | (go_at_call 56; (with_reducible refine Calls.mono (RN.out _ _ _ _ ?_ ?_ ge1 ge2) ?_); (· first | with_reducible exact hbC | with_reducible exact hbA | with_reducible exact hbB | with_reducible exact (Below.refl _ _).drew | with_reducible exact Below.refl _ _ | fail); (· first | with_reducible exact tkB | with_reducible exact tkB.keep bA | fail); rintro e WC ⟨⟨sC, kC, rfl, rowC⟩, hbC⟩; have HRC := Lib.hid rowC; clear rowC)
      | fail)
  all_goals
    go_wp2
    refine bodyPost_ret (v := .tuple #[.slice sC L kC, .int .i64 c]) (by simp [results, Try.results23, go_sem]) rfl ?_
    exact ⟨⟨_, _, rfl, row_base HRC.out HB3.out.size⟩, HB3.out.trans (hbC.mono HB3.out.size)⟩
end Go.Proofs.Yteemkophifcimaa.Sx
