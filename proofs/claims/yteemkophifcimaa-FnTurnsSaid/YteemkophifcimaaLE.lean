/-
  The law's functions on turns: compare; a machine copied.
-/
import Derived.Test.YteemkophifcimaaLM
import Derived.WalkSpells
import Derived.Deep.DeepCutAuto
namespace Go.Proofs.Yteemkophifcimaa.Sx
open Go Go.RowKit
set_option linter.unusedVariables false
set_option linter.unusedSimpArgs false

set_option maxRecDepth 1000000 in
set_option maxHeartbeats 8000000 in
theorem toMo (A B C D : Int) (w : World) : Calls Try.prog 22 #[.agg #[.int .i64 A, .int .i64 B, .int .i64 C, .int .i64 D]] w fun e w' => e = .returned (.agg #[.int .i64 A, .int .i64 B, .int .i64 C, .int .i64 D]) ∧ Below w.heap.size w w' := by
  obtain ⟨W, hW, hB, x⟩ := boxN w #[.int .i64 A, .int .i64 B, .int .i64 C, .int .i64 D] 40
  obtain ⟨V, hV, hB2, y⟩ := boxM W 0 0 0 0
  obtain ⟨U, hU, hB3, z⟩ := boxM V 0 0 0 0
  have x := at_keep (at_keep x hB2) hB3
  have y := y.keep hB3
  have z1 : w.heap.size < W.heap.size := by rw [← hW]; simp
  have z2 : W.heap.size < V.heap.size := by rw [← hV]; simp
  have bU : Below w.heap.size w U := (hB.trans (hB2.mono hB.size)).trans (hB3.mono (by omega))
  have one : ∀ (X : World) (P Q R S : Int) (hX : BM X V.heap.size P Q R S) (i : Nat) (v : Int), i < 4 → ∃ X', X.setCell ⟨V.heap.size, i, none⟩ (.int .i64 v) = X' ∧ BM X' V.heap.size (if i = 0 then v else P) (if i = 1 then v else Q) (if i = 2 then v else R) (if i = 3 then v else S) ∧ Only X X' V.heap.size := fun X P Q R S hX i v hi => by
    refine ⟨_, rfl, ?_, fun n hn => (Below.refl _ _).setCell (p := ⟨V.heap.size, i, none⟩) hn _, fun k hk => heap_setCell_other _ _ _ _ hk, by simp [World.setCell]⟩
    show _ = _
    rw [heap_setCell_same _ _ _ _ _ _ hX]
    have : i = 0 ∨ i = 1 ∨ i = 2 ∨ i = 3 := by omega
    rcases this with rfl | rfl | rfl | rfl <;> rfl
  obtain ⟨U1, hU1, u1, o1⟩ := one U 0 0 0 0 z 0 A (by omega)
  obtain ⟨U2, hU2, u2, o2⟩ := one U1 _ _ _ _ u1 1 B (by omega)
  obtain ⟨U3, hU3, u3, o3⟩ := one U2 _ _ _ _ u2 2 C (by omega)
  obtain ⟨U4, hU4, u4, o4⟩ := one U3 _ _ _ _ u3 3 D (by omega)
  have oo : Only U U4 V.heap.size := ⟨fun n hn => (o1.bel n hn).trans ((o2.bel n hn).trans ((o3.bel n hn).trans (o4.bel n hn))), fun k hk => (o4.rest k hk).trans ((o3.rest k hk).trans ((o2.rest k hk).trans (o1.rest k hk))), o4.siz.trans (o3.siz.trans (o2.siz.trans o1.siz))⟩
  have xx : ∀ X : World, (∀ k, k ≠ V.heap.size → X.heap[k]? = U.heap[k]?) → X.cell? ⟨w.heap.size, 0, none⟩ = some (.int .i64 A) ∧ X.cell? ⟨w.heap.size, 1, none⟩ = some (.int .i64 B) ∧ X.cell? ⟨w.heap.size, 2, none⟩ = some (.int .i64 C) ∧ X.cell? ⟨w.heap.size, 3, none⟩ = some (.int .i64 D) := fun X h => by
    have hx := (h w.heap.size (by omega)).trans x
    refine ⟨?_, ?_, ?_, ?_⟩ <;> (rw [Lib.cell_of_heap hx]; rfl)
  obtain ⟨a0, _, _, _⟩ := xx U (fun _ _ => rfl)
  obtain ⟨_, a1, _, _⟩ := xx U1 o1.rest
  obtain ⟨_, _, a2, _⟩ := xx U2 (fun k hk => (o2.rest k hk).trans (o1.rest k hk))
  obtain ⟨_, _, _, a3⟩ := xx U3 (fun k hk => (o3.rest k hk).trans ((o2.rest k hk).trans (o1.rest k hk)))
  obtain ⟨b0, _, _, _⟩ := z.c
  obtain ⟨_, b1, _, _⟩ := u1.c
  obtain ⟨_, _, b2, _⟩ := u2.c
  obtain ⟨_, _, _, b3⟩ := u3.c
  have f0 := z.f 0
  have f1 := u1.f 1
  have f2 := u2.f 2
  have f3 := u3.f 3
  have u4 : BM U4 V.heap.size A B C D := u4
  obtain ⟨d0, d1, d2, d3⟩ := u4.c
  have y4 : BM U4 W.heap.size 0 0 0 0 := y.only oo (by omega)
  obtain ⟨W9, hW9, y9, o9⟩ := y4.store A B C D
  obtain ⟨e0, e1, e2, e3⟩ := y4.c
  have g0 := y4.f 0
  have g1 := y4.f 1
  have g2 := y4.f 2
  have g3 := y4.f 3
  obtain ⟨r0, r1, r2, r3⟩ := y9.c
  have BB := Lib.hid (bU.trans ((oo.bel _ (by omega)).trans (o9.bel _ (by omega))))
  clear x y z u1 u2 u3 u4 o1 o2 o3 o4 oo xx y4 y9 o9 one hB hB2 hB3 bU
  go_enter Try.func22, Try.ntmps22
  go_wp2
  refine bodyPost_ret (v := .agg #[.int .i64 A, .int .i64 B, .int .i64 C, .int .i64 D]) (by simp [results, Try.results22, go_sem, r0, r1, r2, r3]) rfl ?_
  exact ⟨rfl, BB.out⟩
set_option maxRecDepth 1000000 in
set_option maxHeartbeats 4000000 in
theorem eqMo (A B C D : Int) (w : World) : Calls Try.prog 85 #[.agg #[.int .i64 A, .int .i64 B, .int .i64 C, .int .i64 D], .agg #[.int .i64 A, .int .i64 B, .int .i64 C, .int .i64 D]] w fun e w' => e = .returned (.bool true) ∧ Below w.heap.size w w' := by
  obtain ⟨W, hW, hB, x⟩ := boxM w A B C D
  obtain ⟨V, hV, hB2, y⟩ := boxM W A B C D
  obtain ⟨c0, c1, c2, c3⟩ := (x.keep hB2).c
  obtain ⟨d0, d1, d2, d3⟩ := y.c
  have BB := Lib.hid (hB.trans (hB2.mono hB.size))
  clear x y hB hB2
  go_enter Try.func85, Try.ntmps85
  go_wp2
  go_ret
  exact ⟨rfl, BB.out⟩
set_option maxRecDepth 1000000 in
set_option maxHeartbeats 4000000 in
theorem eqTn (t : Bool) (d A B C D : Int) (w : World) : Calls Try.prog 58 #[.agg #[.bool t, .int .i8 d, .int .i64 A, .int .i64 B, .int .i64 C, .int .i64 D], .agg #[.bool t, .int .i8 d, .int .i64 A, .int .i64 B, .int .i64 C, .int .i64 D]] w fun e w' => e = .returned (.bool true) ∧ Below w.heap.size w w' := by
  obtain ⟨W, hW, hB, x⟩ := boxN w #[.bool t, .int .i8 d, .int .i64 A, .int .i64 B, .int .i64 C, .int .i64 D] 60
  obtain ⟨V, hV, hB2, y⟩ := boxN W #[.bool t, .int .i8 d, .int .i64 A, .int .i64 B, .int .i64 C, .int .i64 D] 60
  have x : T6 V w.heap.size _ _ _ _ _ _ := at_keep x hB2
  have y : T6 V W.heap.size _ _ _ _ _ _ := y
  obtain ⟨c0, c1, c2, c3, c4, c5⟩ := x.c
  obtain ⟨d0, d1, d2, d3, d4, d5⟩ := y.c
  have em := eqMo A B C D V
  have bV := hB.trans (hB2.mono hB.size)
  clear x y hB hB2
  go_enter Try.func58, Try.ntmps58
  go_wp2_with (go_at_call 85; refine em.mono ?_)
  first | (rintro e W1 ⟨rfl, b1⟩; have zz := b1.size) | (rintro e W1 rfl b1; have zz := b1.size)
  try dsimp only
  go_wp2
  go_ret
  exact ⟨rfl, bV.trans (b1.mono bV.size)⟩
/-- All are turns. -/
def Turny (xs : List Value) (n : Nat) : Prop := ∀ j, j < n → ∃ (t : Bool) (d A B C D : Int), xs[j * 6]? = some (.bool t) ∧ xs[j * 6 + 1]? = some (.int .i8 d) ∧ xs[j * 6 + 2]? = some (.int .i64 A) ∧ xs[j * 6 + 3]? = some (.int .i64 B) ∧ xs[j * 6 + 4]? = some (.int .i64 C) ∧ xs[j * 6 + 5]? = some (.int .i64 D)
theorem trL_turny (a b : List Int) (m0 : Mo) (n : Nat) : Turny (trL a b m0 n) n := fun j hj =>
  ⟨_, _, _, _, _, _, trL_at a b m0 (r := 0) (by omega) hj, trL_at a b m0 (r := 1) (by omega) hj, trL_at a b m0 (r := 2) (by omega) hj, trL_at a b m0 (r := 3) (by omega) hj, trL_at a b m0 (r := 4) (by omega) hj, trL_at a b m0 (r := 5) (by omega) hj⟩
set_option maxRecDepth 1000000 in
set_option maxHeartbeats 8000000 in
theorem eqTnS {w : World} {B1 B2 n : Nat} {v u : Value} {xs : List Value} (h : w.ownsRow B1 60 6 v n xs) (h' : w.ownsRow B2 60 6 u n xs) (ht : Turny xs n) (hn : n ≤ 1048576) :
    Calls Try.prog 24 #[v, u] w fun e w' => e = .returned (.bool true) ∧ Below w.heap.size w w' := by
  obtain ⟨s0, k0, rfl⟩ := own_formN h
  obtain ⟨s1, k1, rfl⟩ := own_formN h'
  have hlB : ∀ (s : Option Addr) (n k : Nat) (W : World), (Builtin.len_ #[41] 3 #[.slice s n k]).run Try.prog W = .ok (.int .i64 n) W := fun s n k W => rfl
  have H := Lib.hid h
  have H' := Lib.hid h'
  have HT := Lib.hid ht
  clear h h' ht
  go_enter Try.func24, Try.ntmps24
  go_wp2
  go_loopw [5] (fun i wr => ∃ j : Nat, j ≤ n ∧ i = .int .i64 j ∧ Below w.heap.size w wr) (fun i _ => n - (RowKit.intOf i).toNat)
  case atStart => exact ⟨0, Nat.zero_le _, rfl, Below.refl _ _⟩
  case round =>
    obtain ⟨j, hj, rfl, hb⟩ := hrel
    by_cases hlt : j < n
    · obtain ⟨g, cp, hf, _, _⟩ := H.out.form (by omega)
      obtain rfl : s0 = some ⟨g, 0, none⟩ := by simp at hf; exact hf.1
      obtain ⟨g', cp', hf', _, _⟩ := H'.out.form (by omega)
      obtain rfl : s1 = some ⟨g', 0, none⟩ := by simp at hf'; exact hf'.1
      obtain ⟨t, d, A, B, C, D, x0, x1, x2, x3, x4, x5⟩ := HT.out j hlt
      have KP := Lib.hid (show ∀ w', Below w.heap.size w w' → (w'.cell? ⟨g, j * 6, none⟩ = some (.bool t) ∧ w'.cell? ⟨g, j * 6 + 1, none⟩ = some (.int .i8 d) ∧ w'.cell? ⟨g, j * 6 + 2, none⟩ = some (.int .i64 A) ∧ w'.cell? ⟨g, j * 6 + 3, none⟩ = some (.int .i64 B) ∧ w'.cell? ⟨g, j * 6 + 4, none⟩ = some (.int .i64 C) ∧ w'.cell? ⟨g, j * 6 + 5, none⟩ = some (.int .i64 D)) ∧ (w'.cell? ⟨g', j * 6, none⟩ = some (.bool t) ∧ w'.cell? ⟨g', j * 6 + 1, none⟩ = some (.int .i8 d) ∧ w'.cell? ⟨g', j * 6 + 2, none⟩ = some (.int .i64 A) ∧ w'.cell? ⟨g', j * 6 + 3, none⟩ = some (.int .i64 B) ∧ w'.cell? ⟨g', j * 6 + 4, none⟩ = some (.int .i64 C) ∧ w'.cell? ⟨g', j * 6 + 5, none⟩ = some (.int .i64 D)) from fun w' hb => by
        have r := row_underN (k := 0) H.out hb
        have r' := row_underN (k := 0) H'.out hb
        exact ⟨⟨row_cell r x0, row_cell r x1, row_cell r x2, row_cell r x3, row_cell r x4, row_cell r x5⟩, row_cell r' x0, row_cell r' x1, row_cell r' x2, row_cell r' x3, row_cell r' x4, row_cell r' x5⟩)
      have HB := Lib.hid hb
      have et := eqTn t d A B C D wr.drew
      have g0 : (j : Int) < n := by omega
      clear hf hf' x0 x1 x2 x3 x4 x5 hb
      go_upto_region 6 with (fail)
      go_cut [26] (fun s wx => s = .bool false ∧ Below w.heap.size w wx)
      case first =>
        go_region_held3 (fun w' => (w'.cell? ⟨g, j * 6, none⟩ = some (.bool t) ∧ w'.cell? ⟨g, j * 6 + 1, none⟩ = some (.int .i8 d) ∧ w'.cell? ⟨g, j * 6 + 2, none⟩ = some (.int .i64 A) ∧ w'.cell? ⟨g, j * 6 + 3, none⟩ = some (.int .i64 B) ∧ w'.cell? ⟨g, j * 6 + 4, none⟩ = some (.int .i64 C) ∧ w'.cell? ⟨g, j * 6 + 5, none⟩ = some (.int .i64 D)) ∧ (w'.cell? ⟨g', j * 6, none⟩ = some (.bool t) ∧ w'.cell? ⟨g', j * 6 + 1, none⟩ = some (.int .i8 d) ∧ w'.cell? ⟨g', j * 6 + 2, none⟩ = some (.int .i64 A) ∧ w'.cell? ⟨g', j * 6 + 3, none⟩ = some (.int .i64 B) ∧ w'.cell? ⟨g', j * 6 + 4, none⟩ = some (.int .i64 C) ∧ w'.cell? ⟨g', j * 6 + 5, none⟩ = some (.int .i64 D)))
          (first | with_reducible exact KP.out _ hb9 | with_reducible exact KP.out _ HB.out.drew | with_reducible exact KP.out _ HB.out | fail)
          (first
            | (go_at_call 58; (refine et.mono ?_); rintro e W9 ⟨rfl, b9⟩; have hb9 := HB.out.drew.trans (b9.mono HB.out.drew.size))
            | fail)
        all_goals (go_wp2_with fail; go_meet; exact ⟨rfl, hb9⟩)
      case rest =>
      obtain ⟨rfl, hb9⟩ := hcut
      have HB9 := Lib.hid hb9
      clear hb9
      go_wp2
      go_roundw
      case rel => exact ⟨j + 1, by omega, by first | rfl | simp, HB9.out⟩
      case measure => simp [RowKit.intOf]; omega
    · obtain rfl : j = n := by omega
      go_wp2
      go_ret
      exact ⟨rfl, hb⟩
end Go.Proofs.Yteemkophifcimaa.Sx
